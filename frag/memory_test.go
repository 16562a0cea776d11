package frag

import (
	"bytes"
	"reflect"
	"testing"
	"unsafe"

	"redan/api"
)

// spoil changes all bytes that a row could reach, those behind its end too.
func spoil(b []byte) {
	b = b[:cap(b)]
	for i := range b {
		b[i] = ^b[i]
	}
}

// room is a row with more room behind it, in which something stands.
func room(b []byte) []byte { return append(bytes.Clone(b), mess("behind", 100)...)[:len(b)] }

// untouched fails if a row, or what stands behind it, isn't as room made it.
func untouched(t *testing.T, b, was []byte, name string, of ...any) {
	t.Helper()
	if !bytes.Equal(b, was) || !bytes.Equal(b[:len(b)+100][len(b):], mess("behind", 100)) {
		t.Fatalf("%s %v: what was handed in was changed", name, of)
	}
}

// same fails unless bytes are the right ones.
func same(t *testing.T, got, want []byte, name string, of ...any) {
	t.Helper()
	if !bytes.Equal(got, want) {
		t.Fatalf("%s %v: %d bytes, want %d, or others", name, of, len(got), len(want))
	}
}

// P19.1, P19.4: pieces are new memory, none shares any with another one, and the message isn't changed.
func TestSplitIsNew(t *testing.T) {
	for _, size := range []int{1, 1023, 1024, 1025, 3000, 65536} {
		was := mess("message", size)
		message := room(was)
		first, _ := Split(message)
		second, _ := Split(message)
		untouched(t, message, was, "Split", size)
		for i := range first {
			spoil(first[i])
			untouched(t, message, was, "Split, when a piece changes", size, i)
			for j := i + 1; j < len(first); j++ {
				same(t, first[j], was[1024*j:min(1024*(j+1), size)], "a piece, when another one changes", size, i, j)
			}
		}
		spoil(message)
		same(t, bytes.Join(second, nil), was, "pieces, when the message changes", size)
	}
}

// P19.4: what is refused isn't changed.
func TestRefusedIsUntouched(t *testing.T) {
	was := mess("long", 65537)
	message := room(was)
	refusesToSplit(t, message, api.ErrLong)
	untouched(t, message, was, "Split of 65537 bytes")
	b := New(Limits{Peer: 1024, All: 1024, Age: 1})
	b.Add("p", 0, 0, 2, full("a"), 0)
	for _, c := range []struct {
		msg, part, parts, size int
		want                   api.Errno
	}{{0, 0, 1, 0, 1}, {8, 0, 2, 1024, 1}, {0, 0, 2, 1025, 1}, {0, 0, 2, 1024, 41}, {0, 2, 3, 7, 41}, {0, 1, 2, 7, 42}} {
		was := mess("refused", c.size)
		body := room(was)
		if _, e := b.Add("p", c.msg, c.part, c.parts, body, 1); e != c.want {
			t.Fatalf("%+v: error %d", c, int(e))
		}
		untouched(t, body, was, "Add", c)
	}
}

// P19.4: a body isn't kept, nor changed: neither when it is put in, nor when it is held against one that came, nor when
// the message is whole.
func TestBodyIsNotKept(t *testing.T) {
	for parts := 1; parts <= 5; parts++ {
		for _, size := range []int{1, 100, 1024} {
			message, pieces := said("message", parts, size)
			b := New(roomy())
			var got []byte
			var rows [][]byte
			for part, was := range pieces {
				body := room(was)
				rows = append(rows, body)
				got, _ = b.Add("p", 0, part, parts, body, 1)
				untouched(t, body, was, "Add", part, parts)
				spoil(body)
				if part < parts-1 {
					again := room(was)
					if _, e := b.Add("p", 0, part, parts, again, 1); e != api.OK {
						t.Fatalf("part %d of %d: what came changes with its body: error %d", part, parts, int(e))
					}
					untouched(t, again, was, "Add again", part, parts)
					spoil(again)
				}
			}
			same(t, got, message, "the message", parts, size)
			for _, body := range rows {
				spoil(body)
				same(t, got, message, "the message, when a body changes", parts, size)
			}
		}
	}
}

// P19.4: a message is new memory: the bodies don't change with it, nor do another message, or what the buffer keeps.
func TestMessageIsNew(t *testing.T) {
	for parts := 1; parts <= 4; parts++ {
		message, pieces := said("message", parts, 300)
		b := New(roomy())
		var last []byte
		for round := range 3 {
			var rows [][]byte
			for part, was := range pieces {
				rows = append(rows, room(was))
				b.Add("other", round, part, 64, full("kept"), 1)
				got, _ := b.Add("p", 0, part, parts, rows[part], 1)
				if part < parts-1 {
					continue
				}
				same(t, got, message, "the message", parts, round)
				if last != nil {
					spoil(got)
					same(t, last, message, "another message", parts, round)
				}
				last = bytes.Clone(message)
				spoil(got[:cap(got)])
				for i, was := range pieces {
					untouched(t, rows[i], was, "Add, when the message changes", i, parts)
				}
				if _, e := b.Add("other", round, 0, 64, full("kept"), 1); e != api.OK {
					t.Fatalf("what is kept changes with a message: error %d", int(e))
				}
			}
		}
	}
}

// P19.4: one row may be several pieces, and lie over others.
func TestSharedBodies(t *testing.T) {
	rows := mess("rows", 3000)
	was := bytes.Clone(rows)
	b := New(roomy())
	for part := range 9 {
		if _, e := b.Add("p", 0, part, 10, rows[10*part:10*part+1024], 1); e != api.OK {
			t.Fatalf("part %d: error %d", part, int(e))
		}
		if _, e := b.Add("p", 1, part, 10, rows[:1024], 1); e != api.OK {
			t.Fatalf("part %d of the other: error %d", part, int(e))
		}
	}
	got, _ := b.Add("p", 0, 9, 10, rows[90:91], 1)
	other, _ := b.Add("p", 1, 9, 10, rows[:1024], 1)
	var want []byte
	for part := range 9 {
		want = append(want, was[10*part:10*part+1024]...)
	}
	same(t, got, append(want, was[90]), "rows that lie over others")
	same(t, other, bytes.Repeat(was[:1024], 10), "one row ten times")
	same(t, rows, was, "the rows")
}

// P19.4: a peer's text isn't kept, but its letters in new memory: it may be a small piece of something great.
func TestPeerIsNotKept(t *testing.T) {
	text := string(mess("peers", 64))
	b := New(roomy())
	for msg := range 8 {
		peer := text[5*msg : 5*msg+9]
		b.Add(peer, msg, 0, 2, full("a"), 1)
		for _, x := range b.entries {
			at, first := uintptr(unsafe.Pointer(unsafe.StringData(x.peer))), uintptr(unsafe.Pointer(unsafe.StringData(text)))
			if at >= first && at < first+64 {
				t.Fatalf("the peer of msg %d lies in what was handed in", x.msg)
			}
		}
		if b.Held(peer) != 1024 {
			t.Fatalf("Held of the peer: %d", b.Held(peer))
		}
	}
}

// P19.2: a buffer's limits are those that New was told, whatever becomes of these, and no two buffers share anything.
func TestBuffersApart(t *testing.T) {
	l := Limits{Peer: 1024, All: 1024, Age: 5}
	v, w := both(t, l), both(t, l)
	l.Peer, l.All, l.Age = 0, 0, 0
	v.adds(api.OK, "p", 0, 0, 2, full("a"), 1)
	w.holds("the other buffer")
	w.adds(api.OK, "p", 0, 0, 3, full("b"), 3)
	v.expire(7)
	v.has()
	w.has(key{"p", 0})
	w.drop("p")
	v.adds(api.OK, "q", 0, 0, 2, full("a"), 1)
	w.has()
}

// P19.3: what is answered with ErrArg, ErrFrag and ErrRoom leaves all as it was, but for what is too old; so does what
// came before, and what only asks.
func TestRefusedChangesNothing(t *testing.T) {
	b := New(Limits{Peer: 1200, All: 1300, Age: 5})
	b.Add("p", 0, 0, 2, full("a"), 9)
	b.Add("p", 1, 1, 2, mess("b", 50), 8)
	b.Add("q", 1, 1, 2, mess("b", 50), 7)
	was := twin(b)
	for _, c := range []struct {
		peer             string
		msg, part, parts int
		body             []byte
		want             api.Errno
	}{
		{"p", -1, 0, 2, full("a"), 1}, {"p", 0, 0, 2, nil, 1}, {"p", 0, 0, 3, full("a"), 41}, {"p", 0, 0, 2, full("b"), 41},
		{"p", 0, 0, 2, full("a"), 0}, {"p", 1, 1, 2, mess("b", 50), 0}, {"p", 0, 1, 2, mess("c", 177), 42},
		{"q", 2, 0, 2, full("c"), 42}, {"new", 0, 0, 1, mess("c", 177), 42}, {"p", 0, 1, 2, full("c"), 42},
	} {
		if got, e := b.Add(c.peer, c.msg, c.part, c.parts, c.body, 12); e != c.want || len(got) != 0 {
			t.Fatalf("%s, %d, part %d of %d, %d bytes: %d bytes, error %d", c.peer, c.msg, c.part, c.parts, len(c.body), len(got), int(e))
		}
		b.Held(c.peer)
		b.Total()
		b.Count()
		b.Expire(12)
		b.Drop("nobody")
		if !reflect.DeepEqual(twin(b), was) {
			t.Fatalf("%s, %d, part %d of %d, %d bytes: something has changed", c.peer, c.msg, c.part, c.parts, len(c.body))
		}
	}
}
