package tunnel

import (
	"bytes"
	"fmt"
	"reflect"
	"slices"
	"strings"
	"sync"
	"testing"

	"redan/api"
	"redan/curve"
	"redan/frag"
	"redan/kem"
	"redan/pattern"
	"redan/session"
)

// row is a row of n bytes, another one for each seed.
func row(n, seed int) []byte {
	out := make([]byte, n)
	x := uint32(seed)*2654435761 + 12345
	for i := range n {
		x = x*1664525 + 1013904223
		out[i] = byte(x >> 24)
	}
	return out
}

// pairOf is the whole pair of a seed.
func pairOf(seed byte) api.Pair {
	s := bytes.Repeat([]byte{seed}, 32)
	pub, _ := curve.Public(s)
	ek, dk, _ := kem.Gen(s, s)
	return api.Pair{Priv: s, Pub: pub, Dk: dk, Ek: ek}
}

// pairs are those of a, b, c and d; they are made once.
var pairs = sync.OnceValue(func() map[string]api.Pair {
	return map[string]api.Pair{"a": pairOf(1), "b": pairOf(2), "c": pairOf(3), "d": pairOf(4)}
})

// publicOf is what others know of a pair.
func publicOf(p api.Pair) api.Pair { return api.Pair{Pub: p.Pub, Ek: p.Ek} }

// Patterns beside those that are given: quick ones, with one message, with two, three and eight of them, and one
// whose initiator's second message may fail.
const (
	one   = "One:\n-> e\n"
	two   = "Two:\n-> e\n<- e\n"
	three = "Three:\n-> e\n<- e, ee\n-> psk\n"
	eight = "Eight:\n-> e\n<- e\n-> e1\n<- ee\n-> s\n<- ekem\n-> psk\n<- s\n"
	late  = "Late:\n-> e\n<- e\n-> ee\n"
	wide  = "Wide:\n-> e, e1, s\n<- e, ekem\n"
)

// patternOf is a given pattern, or that of a text.
func patternOf(t testing.TB, name string) pattern.Pattern {
	t.Helper()
	text, there := pattern.Given(name)
	if !there {
		text = name
	}
	p, e := pattern.Parse(text)
	if e != api.OK {
		t.Fatalf("%q: error %d", name, int(e))
	}
	if e := pattern.Check(p); e != api.OK {
		t.Fatalf("%q: error %d", name, int(e))
	}
	return p
}

// config is that of the end at an address, by a given pattern's name or a text.
func config(t testing.TB, addr, name string) Config {
	t.Helper()
	c := Config{
		Pattern:  patternOf(t, name),
		Prologue: []byte("prologue"),
		Own:      pairs()[addr],
		Psk:      row(32, 7),
		Rules:    session.Rules{Retry: 5, RetryMax: 20, Tries: 3, Rekey: 60, Expire: 120, RekeyCount: 20, ExpireCount: 30},
		Frags:    frag.Limits{Peer: 20000, All: 40000, Age: 30},
		Peers:    3, Load: 3,
		Secret: []byte("secret of " + addr),
		Period: 20,
	}
	for _, k := range []string{"a", "b", "c", "d"} {
		if k != addr {
			c.Known = append(c.Known, Peer{Addr: k, Keys: publicOf(pairs()[k])})
		}
	}
	return c
}

// twin is a config in other memory.
func twin(c Config) Config {
	keys := func(p api.Pair) api.Pair {
		return api.Pair{Priv: bytes.Clone(p.Priv), Pub: bytes.Clone(p.Pub), Dk: bytes.Clone(p.Dk), Ek: bytes.Clone(p.Ek)}
	}
	c.Pattern.Messages = slices.Clone(c.Pattern.Messages)
	for i := range c.Pattern.Messages {
		c.Pattern.Messages[i].Tokens = slices.Clone(c.Pattern.Messages[i].Tokens)
	}
	c.Prologue, c.Psk, c.Secret, c.Own = bytes.Clone(c.Prologue), bytes.Clone(c.Psk), bytes.Clone(c.Secret), keys(c.Own)
	c.Known = slices.Clone(c.Known)
	for i := range c.Known {
		c.Known[i].Keys = keys(c.Known[i].Keys)
	}
	return c
}

// both are an end and the plain one to which it is held.
type both struct {
	t    testing.TB
	x    *Tunnel
	p    *plain
	used []string // the addresses that calls had
}

// made are two ends by a config.
func made(t testing.TB, c Config) *both {
	t.Helper()
	x, e := New(c)
	if e != api.OK || x == nil {
		t.Fatalf("New: error %d", int(e))
	}
	p, e := plainNew(twin(c))
	if e != api.OK {
		t.Fatalf("the plain end: error %d", int(e))
	}
	b := &both{t: t, x: x, p: p, used: []string{"", "a", "b"}}
	b.asks()
	return b
}

// picture is all of an end, but for its config, and its buffer if that doesn't matter.
func (b *both) picture(buffer bool) string {
	x := *b.x
	x.config = Config{}
	if !buffer {
		x.buffer = nil
	}
	var out strings.Builder
	draw(&out, reflect.ValueOf(x))
	return out.String()
}

// draw tells all that a value leads to.
func draw(out *strings.Builder, v reflect.Value) {
	switch v.Kind() {
	case reflect.Pointer:
		if v.IsNil() {
			out.WriteString("nil ")
			return
		}
		draw(out, v.Elem())
	case reflect.Struct:
		out.WriteString("{")
		for i := range v.NumField() {
			draw(out, v.Field(i))
		}
		out.WriteString("} ")
	case reflect.Map:
		keys := v.MapKeys()
		slices.SortFunc(keys, func(x, y reflect.Value) int { return strings.Compare(x.String(), y.String()) })
		for _, k := range keys {
			fmt.Fprintf(out, "%q: ", k.String())
			draw(out, v.MapIndex(k))
		}
	case reflect.Slice, reflect.Array:
		if v.Type().Elem().Kind() == reflect.Uint8 && v.Kind() == reflect.Slice {
			fmt.Fprintf(out, "%x ", v.Bytes())
			return
		}
		fmt.Fprintf(out, "%d: ", v.Len())
		for i := range v.Len() {
			draw(out, v.Index(i))
		}
	default:
		fmt.Fprintf(out, "%v ", v)
	}
}

// asks holds Peers, and Up and Hash of all addresses, and what the buffer keeps, to the plain end's; asking changes
// nothing.
func (b *both) asks() {
	b.t.Helper()
	if got, want := b.x.Peers(), len(b.p.peers); got != want {
		b.t.Fatalf("Peers: %d, not %d", got, want)
	}
	for _, addr := range b.used {
		x := b.p.of(addr)
		up := x != nil && x.session != nil
		var hash []byte
		if up {
			hash = x.sessionHash
		}
		if got := b.x.Up(addr); got != up {
			b.t.Fatalf("Up of %q: %v", addr, got)
		}
		if got := b.x.Hash(addr); !bytes.Equal(got, hash) || up && len(got) != 32 {
			b.t.Fatalf("Hash of %q: %x, not %x", addr, got, hash)
		}
		if got, want := b.x.buffer.Held(addr), b.p.buffer.Held(addr); got != want {
			b.t.Fatalf("of %q %d bytes are kept, not %d", addr, got, want)
		}
	}
	if b.x.buffer.Count() != b.p.buffer.Count() || b.x.buffer.Total() != b.p.buffer.Total() {
		b.t.Fatalf("%d entries, %d bytes are kept, not %d and %d", b.x.buffer.Count(), b.x.buffer.Total(), b.p.buffer.Count(), b.p.buffer.Total())
	}
	b.bounds()
}

// bounds holds P23.7: there are never more peers and bytes than the config says.
func (b *both) bounds() {
	b.t.Helper()
	c := b.p.c
	if b.x.Peers() > c.Peers || b.x.buffer.Total() > max(c.Frags.All, 0) {
		b.t.Fatalf("%d peers, %d bytes of all", b.x.Peers(), b.x.buffer.Total())
	}
	for _, addr := range b.used {
		if b.x.buffer.Held(addr) > max(c.Frags.Peer, 0) {
			b.t.Fatalf("%d bytes of %q", b.x.buffer.Held(addr), addr)
		}
	}
}

// uses notes an address.
func (b *both) uses(addr string) {
	if !slices.Contains(b.used, addr) {
		b.used = append(b.used, addr)
	}
}

// same fails unless two lists of datagrams are one.
func (b *both) same(name string, got, want []Out) {
	b.t.Helper()
	if len(got) != len(want) {
		b.t.Fatalf("%s: %d datagrams, not %d", name, len(got), len(want))
	}
	for i, o := range got {
		if o.Addr != want[i].Addr || !bytes.Equal(o.Bytes, want[i].Bytes) {
			b.t.Fatalf("%s, datagram %d: to %q %x, not to %q %x", name, i, o.Addr, o.Bytes, want[i].Addr, want[i].Bytes)
		}
	}
}

// settles holds a call's datagrams and error to the plain end's, and looks that nothing changed with an error.
func (b *both) settles(name string, was string, got []Out, e api.Errno, want []Out, wantE api.Errno) {
	b.t.Helper()
	if e != wantE {
		b.t.Fatalf("%s: error %d, not %d", name, int(e), int(wantE))
	}
	b.same(name, got, want)
	if e != api.OK && (got != nil || b.picture(true) != was) {
		b.t.Fatalf("%s: error %d, and something changed, or was told", name, int(e))
	}
	b.asks()
}

func (b *both) open(addr string, chance []byte, now uint64) ([]Out, api.Errno) {
	b.t.Helper()
	b.uses(addr)
	was := b.picture(true)
	got, e := b.x.Open(addr, chance, now)
	want, wantE := b.p.open(addr, chance, now)
	b.settles(fmt.Sprintf("Open of %q at %d", addr, now), was, got, e, want, wantE)
	return got, e
}

func (b *both) send(addr string, data []byte, now uint64) ([]Out, api.Errno) {
	b.t.Helper()
	b.uses(addr)
	was := b.picture(true)
	got, e := b.x.Send(addr, data, now)
	want, wantE := b.p.send(3, addr, data, now)
	b.settles(fmt.Sprintf("Send of %d bytes to %q at %d", len(data), addr, now), was, got, e, want, wantE)
	return got, e
}

func (b *both) ping(addr string, now uint64) ([]Out, api.Errno) {
	b.t.Helper()
	b.uses(addr)
	was := b.picture(true)
	got, e := b.x.Ping(addr, now)
	want, wantE := b.p.send(4, addr, nil, now)
	b.settles(fmt.Sprintf("Ping to %q at %d", addr, now), was, got, e, want, wantE)
	return got, e
}

func (b *both) close(addr string) api.Errno {
	b.t.Helper()
	b.uses(addr)
	was := b.picture(true)
	e := b.x.Close(addr)
	b.settles(fmt.Sprintf("Close of %q", addr), was, nil, e, nil, b.p.close(addr))
	return e
}

func (b *both) tick(chance []byte, now uint64) []Out {
	b.t.Helper()
	got := b.x.Tick(chance, now)
	b.same(fmt.Sprintf("Tick at %d", now), got, b.p.tick(chance, now))
	b.asks()
	return got
}

func (b *both) handle(addr string, datagram, chance []byte, now uint64) (Event, api.Errno) {
	b.t.Helper()
	b.uses(addr)
	was := b.picture(false)
	got, e := b.x.Handle(addr, datagram, chance, now)
	want, wantE, read := b.p.handle(addr, datagram, chance, now)
	name := fmt.Sprintf("Handle of %d bytes from %q at %d", len(datagram), addr, now)
	if e != wantE {
		b.t.Fatalf("%s: error %d, not %d", name, int(e), int(wantE))
	}
	b.same(name, got.Outs, want.Outs)
	if !bytes.Equal(got.Data, want.Data) || got.Got != want.Got || got.Up != want.Up {
		b.t.Fatalf("%s: %x, Got %v, Up %v, not %x, %v, %v", name, got.Data, got.Got, got.Up, want.Data, want.Got, want.Up)
	}
	if e != api.OK {
		b.refused(name, was, got, e, read)
	}
	b.asks()
	return got, e
}

// refused looks that a Handle with an error tells nothing but ErrCookie's datagram, and changes nothing but the buffer
// and what was read.
func (b *both) refused(name, was string, v Event, e api.Errno, read bool) {
	b.t.Helper()
	if e == api.ErrCookie {
		v.Outs = nil
	}
	if !reflect.DeepEqual(v, Event{}) {
		b.t.Fatalf("%s: error %d beside %v", name, int(e), v)
	}
	if !read && b.picture(false) != was {
		b.t.Fatalf("%s: error %d, and something changed", name, int(e))
	}
}
