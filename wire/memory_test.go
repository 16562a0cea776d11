package wire

import (
	"bytes"
	"testing"

	"redan/api"
)

// spoil changes all bytes that a row could reach, those behind its end too.
func spoil(b []byte) {
	b = b[:cap(b)]
	for i := range b {
		b[i] = ^b[i]
	}
}

// roomy is a row with more room behind it, in which something stands.
func roomy(b []byte) []byte { return append(bytes.Clone(b), mess("behind", 100)...)[:len(b)] }

// untouched fails if a row, or what stands behind it, isn't as roomy made it.
func untouched(t *testing.T, b, was []byte, name string, of ...any) {
	t.Helper()
	if !bytes.Equal(b, was) || !bytes.Equal(b[:len(b)+100][len(b):], mess("behind", 100)) {
		t.Fatalf("%s %v: what was handed in was changed", name, of)
	}
}

// kept looks whether what a call tells of a packet changes with what it was handed, with what it told another time,
// or changes these.
func kept(t *testing.T, p Packet, tell func(Packet) []byte, name string) {
	t.Helper()
	q := p
	q.Mac, q.Body = roomy(p.Mac), roomy(p.Body)
	first := tell(q)
	want := bytes.Clone(first)
	second := tell(q)
	untouched(t, q.Mac, p.Mac, name+", Mac")
	untouched(t, q.Body, p.Body, name+", Body")
	spoil(first)
	untouched(t, q.Mac, p.Mac, name+", Mac, when the answer changes")
	untouched(t, q.Body, p.Body, name+", Body, when the answer changes")
	sameBytes(t, second, want, name+", another answer")
	spoil(q.Mac)
	spoil(q.Body)
	sameBytes(t, second, want, name+", when what was handed in changes")
	q.Mac, q.Body = p.Mac, p.Body
	sameBytes(t, tell(q), want, name+", asked again")
}

// put are Put's bytes alone.
func put(p Packet) []byte {
	b, _ := Put(p)
	return b
}

// P18.1, rule 3: what Put and Signed tell is new memory, and what they are handed is neither kept nor changed, also
// where it is refused.
func TestPutKeepsNothing(t *testing.T) {
	for name, p := range packets() {
		kept(t, p, put, "Put, "+name)
		kept(t, p, Signed, "Signed, "+name)
		for _, kind := range []int{0, 1, 2, 3, 4, 5} {
			p.Kind = kind
			kept(t, p, put, "Put of another kind, "+name)
			kept(t, p, Signed, "Signed of another kind, "+name)
		}
	}
	for _, p := range []Packet{fragment(8, 0, 1, 16, 20), fragment(0, 0, 1, 17, 20), fragment(0, 0, 2, 16, 20), cookie(17), data(15), data(1188), keep(17)} {
		kept(t, p, put, "Put of one that may not be")
		kept(t, p, Signed, "Signed of one that may not be")
	}
}

// P18.1, rule 3: what Get tells is new memory, no two rows of it share any, and what it is handed is neither kept nor
// changed.
func TestGetKeepsNothing(t *testing.T) {
	for name, p := range packets() {
		all, _ := plainPut(p)
		b := roomy(all)
		first, e := Get(b)
		second, f := Get(b)
		if e != api.OK || f != api.OK {
			t.Fatalf("Get, %s: errors %d, %d", name, int(e), int(f))
		}
		untouched(t, b, all, "Get, "+name)
		spoil(first.Mac)
		untouched(t, b, all, "Get, when Mac changes, "+name)
		sameBytes(t, first.Body, p.Body, "Body, when Mac changes, "+name)
		spoil(first.Body)
		untouched(t, b, all, "Get, when Body changes, "+name)
		spoil(b)
		if !alike(second, p) {
			t.Fatalf("Get, %s: the packet changes with its bytes, or with another one", name)
		}
		third, _ := Get(all)
		mac := bytes.Clone(third.Mac)
		spoil(third.Body)
		sameBytes(t, third.Mac, mac, "Mac, when Body changes, "+name)
	}
}

// Rule 3: what is added to a row that was got is not written over another one.
func TestAddedToMac(t *testing.T) {
	p := fragment(0, 0, 1, 16, 200)
	b, _ := plainPut(p)
	got, _ := Get(b)
	longer := append(got.Mac, mess("more", 50)...)
	sameBytes(t, longer[:16], p.Mac, "Mac")
	sameBytes(t, got.Body, p.Body, "Body")
}

// Rule 3: nor are bytes changed that are refused.
func TestRefusedIsUntouched(t *testing.T) {
	for name, p := range packets() {
		all, _ := plainPut(p)
		for size := range all {
			b := roomy(all[:size])
			Get(b)
			untouched(t, b, all[:size], "Get, "+name+", cut at", size)
		}
	}
	long := mess("long", 1201)
	b := roomy(long)
	refusesToGet(t, b, api.ErrLong, "1201 bytes")
	untouched(t, b, long, "Get of 1201 bytes")
}

// Rule 3: one row may be handed in at two places, or lie over another one.
func TestSharedArguments(t *testing.T) {
	room := mess("room", 1100)
	was := bytes.Clone(room)
	for off := range 60 {
		p := Packet{Kind: 1, From: 1, To: 2, Msg: 3, Part: 0, Parts: 2, Mac: room[off : off+16], Body: room[off/2 : off/2+1024]}
		want, _ := plainPut(p)
		puts(t, p, want, "Mac and Body of one room", off)
		sameBytes(t, Signed(p), plainSigned(p), "Signed, Mac and Body of one room", off)
		sameBytes(t, room, was, "the room")
	}
	p := Packet{Kind: 1, Parts: 1, Mac: room[:16], Body: room[:16]}
	may(t, p, true, "one row twice")
}
