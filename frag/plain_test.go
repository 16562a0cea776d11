package frag

import (
	"bytes"
	"crypto/sha3"
	"slices"
	"sort"
	"strconv"
	"testing"

	"redan/api"
)

// mess are n bytes without order.
func mess(seed string, n int) []byte { return sha3.SumSHAKE256([]byte(seed), n) }

// key is whose entry it is.
type key struct {
	peer string
	msg  int
}

// plainEntry is an entry by the chapter's words; begun tells how many were begun ahead of it.
type plainEntry struct {
	parts, begun int
	birth        uint64
	got          map[int]string
}

// plain is a buffer by the chapter's words, without the program's.
type plain struct {
	peer, all int
	age       uint64
	begun     int
	entries   map[key]plainEntry
}

// plainNew says P19.2's words of New.
func plainNew(l Limits) *plain {
	p := &plain{peer: l.Peer, all: l.All, age: l.Age, entries: map[key]plainEntry{}}
	if p.peer < 0 {
		p.peer = 0
	}
	if p.all < 0 {
		p.all = 0
	}
	return p
}

// expire says P19.2's words of Expire.
func (p *plain) expire(now uint64) {
	for k, x := range p.entries {
		if x.birth < now && now-x.birth > p.age {
			delete(p.entries, k)
		}
	}
}

// drop says P19.2's words of Drop.
func (p *plain) drop(peer string) {
	for msg := range 8 {
		delete(p.entries, key{peer, msg})
	}
}

// bytes are how many an entry keeps.
func (x plainEntry) bytes() int {
	n := 0
	for _, s := range x.got {
		n += len(s)
	}
	return n
}

// total says P19.2's word Total.
func (p *plain) total() int {
	n := 0
	for _, x := range p.entries {
		n += x.bytes()
	}
	return n
}

// held says P19.2's word Held.
func (p *plain) held(peer string) int {
	n := 0
	for msg := range 8 {
		n += p.entries[key{peer, msg}].bytes()
	}
	return n
}

// plainMayBe says the first line of P19.3.
func plainMayBe(msg, part, parts, size int) bool {
	if msg < 0 || msg > 7 || parts < 1 || parts > 64 || part < 0 || part >= parts {
		return false
	}
	return size == 1024 || part == parts-1 && size >= 1 && size <= 1024
}

// others are the keys of a peer's other entries, in the order in which they go.
func (p *plain) others(k key) []key {
	var out []key
	for other := range p.entries {
		if other.peer == k.peer && other.msg != k.msg {
			out = append(out, other)
		}
	}
	sort.Slice(out, func(i, j int) bool {
		x, y := p.entries[out[i]], p.entries[out[j]]
		if x.birth != y.birth {
			return x.birth < y.birth
		}
		return x.begun < y.begun
	})
	return out
}

// room says P19.3's words of ErrRoom: which entries go, and whether there is room then.
func (p *plain) room(k key, size int) ([]key, bool) {
	held, all := p.held(k.peer)+size, p.total()+size
	var gone []key
	for _, other := range p.others(k) {
		if held <= p.peer {
			break
		}
		n := p.entries[other].bytes()
		held, all = held-n, all-n
		gone = append(gone, other)
	}
	return gone, held <= p.peer && all <= p.all
}

// add says P19.3's words.
func (p *plain) add(peer string, msg, part, parts int, body []byte, now uint64) ([]byte, api.Errno) {
	if !plainMayBe(msg, part, parts, len(body)) {
		return nil, 1
	}
	p.expire(now)
	k := key{peer, msg}
	x, there := p.entries[k]
	if there && x.parts != parts {
		return nil, 41
	}
	if old, came := x.got[part]; came {
		if old != string(body) {
			return nil, 41
		}
		return nil, 0
	}
	gone, enough := p.room(k, len(body))
	if !enough {
		return nil, 42
	}
	for _, other := range gone {
		delete(p.entries, other)
	}
	if !there {
		x = plainEntry{parts: parts, begun: p.begun, birth: now, got: map[int]string{}}
		p.begun++
		p.entries[k] = x
	}
	x.got[part] = string(body)
	if len(x.got) < parts {
		return nil, 0
	}
	delete(p.entries, k)
	var message []byte
	for i := range parts {
		message = append(message, x.got[i]...)
	}
	return message, 0
}

// pair is a buffer, and what it should be.
type pair struct {
	t testing.TB
	b *Buffer
	p *plain
}

// both are a new buffer and a plain one.
func both(t testing.TB, l Limits) *pair { return &pair{t, New(l), plainNew(l)} }

// names are the peers that tests ask for.
func names() []string { return []string{"p", "q", "", "pp", "p\x00", "P"} }

// holds fails unless Held, Total and Count are as they should be, and within the bounds (P19.5).
func (w *pair) holds(name string, of ...any) {
	w.t.Helper()
	for _, peer := range names() {
		got := w.b.Held(peer)
		if got != w.p.held(peer) {
			w.t.Fatalf("%s %v: Held(%q) %d, want %d", name, of, peer, got, w.p.held(peer))
		}
		if got > w.p.peer {
			w.t.Fatalf("%s %v: Held(%q) %d, above %d", name, of, peer, got, w.p.peer)
		}
	}
	if got := w.b.Total(); got != w.p.total() || got > w.p.all {
		w.t.Fatalf("%s %v: Total %d, want %d, at most %d", name, of, got, w.p.total(), w.p.all)
	}
	if got := w.b.Count(); got != len(w.p.entries) {
		w.t.Fatalf("%s %v: Count %d, want %d", name, of, got, len(w.p.entries))
	}
}

// add puts a piece into both, and fails unless they answer the same.
func (w *pair) add(peer string, msg, part, parts int, body []byte, now uint64) ([]byte, api.Errno) {
	w.t.Helper()
	want, f := w.p.add(peer, msg, part, parts, body, now)
	got, e := w.b.Add(peer, msg, part, parts, body, now)
	name := "Add of " + strconv.Quote(peer) + ", msg " + strconv.Itoa(msg)
	if e != f || !bytes.Equal(got, want) {
		w.t.Fatalf("%s, part %d of %d, %d bytes, at %d: %d bytes %.8x.., error %d, want %d bytes %.8x.., error %d",
			name, part, parts, len(body), now, len(got), got, int(e), len(want), want, int(f))
	}
	w.holds(name, part, parts, len(body), now)
	return got, e
}

// adds puts a piece into both, and fails unless that error comes, and nothing beside it.
func (w *pair) adds(want api.Errno, peer string, msg, part, parts int, body []byte, now uint64) {
	w.t.Helper()
	if got, e := w.add(peer, msg, part, parts, body, now); e != want || len(got) != 0 {
		w.t.Fatalf("Add of %q, msg %d, part %d of %d, %d bytes, at %d: %d bytes, error %d, want nothing, error %d",
			peer, msg, part, parts, len(body), now, len(got), int(e), int(want))
	}
}

// tells puts a piece into both, and fails unless the message is whole then.
func (w *pair) tells(want []byte, peer string, msg, part, parts int, body []byte, now uint64) {
	w.t.Helper()
	if got, e := w.add(peer, msg, part, parts, body, now); e != api.OK || !bytes.Equal(got, want) {
		w.t.Fatalf("Add of %q, msg %d, part %d of %d: %d bytes, error %d, want the message's %d", peer, msg, part, parts, len(got), int(e), len(want))
	}
}

// expire lets go what is too old in both.
func (w *pair) expire(now uint64) {
	w.t.Helper()
	w.p.expire(now)
	w.b.Expire(now)
	w.holds("Expire", now)
}

// drop lets go what is a peer's in both.
func (w *pair) drop(peer string) {
	w.t.Helper()
	w.p.drop(peer)
	w.b.Drop(peer)
	w.holds("Drop of " + strconv.Quote(peer))
}

// counts fails unless there are so many entries, as a test says it by hand.
func (w *pair) counts(want int, name string, of ...any) {
	w.t.Helper()
	if got := w.b.Count(); got != want {
		w.t.Fatalf("%s %v: Count %d, want %d", name, of, got, want)
	}
}

// has fails unless the buffer keeps just these entries, in the order in which they were begun.
func (w *pair) has(want ...key) {
	w.t.Helper()
	var got []key
	for _, x := range w.b.entries {
		got = append(got, key{x.peer, x.msg})
	}
	if !slices.Equal(got, want) {
		w.t.Fatalf("entries %v, want %v", got, want)
	}
}

// twin is a buffer that is the same, in new memory.
func twin(b *Buffer) *Buffer {
	out := &Buffer{limits: b.limits}
	for _, x := range b.entries {
		y := *x
		y.pieces = nil
		for _, piece := range x.pieces {
			y.pieces = append(y.pieces, bytes.Clone(piece))
		}
		out.entries = append(out.entries, &y)
	}
	return out
}

// full is a piece's body ahead of the last one, another one for each seed.
func full(seed string) []byte { return mess(seed, 1024) }

// roomy are limits that nothing here comes near.
func roomy() Limits { return Limits{Peer: 1 << 30, All: 1 << 30, Age: 1 << 40} }
