package session

import (
	"bytes"
	"testing"

	"redan/api"
	"redan/sym"
)

// spoil changes all bytes that a row could reach, those behind its end too.
func spoil(b []byte) {
	b = b[:cap(b)]
	for i := range b {
		b[i] = ^b[i]
	}
}

// room is a row with more room behind it, in which something stands.
func room(b []byte) []byte { return append(bytes.Clone(b), row(100, 9)...)[:len(b)] }

// untouched fails if a row, or what stands behind it, isn't as room made it.
func untouched(t *testing.T, b, was []byte, name string, of ...any) {
	t.Helper()
	if !bytes.Equal(b, was) || !bytes.Equal(b[:len(b)+100][len(b):], row(100, 9)) {
		t.Fatalf("%s %v: what was handed in was changed", name, of)
	}
}

// P22.3: keys are copied: what becomes of those that were handed in doesn't matter.
func TestKeysAreCopied(t *testing.T) {
	for _, size := range []int{0, 1, 31, 32, 33, 200} {
		wasOne, wasTwo := row(size, 1), row(size, 2)
		one, two := room(wasOne), room(wasTwo)
		x := both(t, sym.Cipher{Key: one, N: 3}, sym.Cipher{Key: two}, wide(), 0)
		untouched(t, one, wasOne, "New, the first key", size)
		untouched(t, two, wasTwo, "New, the second key", size)
		x.seal([]byte("ahead"), 1)
		untouched(t, one, wasOne, "Seal, the first key", size)
		spoil(one)
		spoil(two)
		x.seal([]byte("behind"), 1)
		box := []byte("without a key, or with a bad one")
		if size == 32 {
			box = boxed(t, wasTwo, 5, []byte("text"))
		}
		x.open(5, box, 1)
	}
}

// P22.3: a key that is one for both, and for two sessions, is none of theirs.
func TestOneKeyForAll(t *testing.T) {
	key := room(row(32, 1))
	c := sym.Cipher{Key: key}
	x, y := both(t, c, c, wide(), 0), both(t, c, c, wide(), 0)
	a, b := x.send(1, 0)[0], y.send(1, 0)[0]
	untouched(t, key, row(32, 1), "Seal, the key")
	spoil(key)
	x.take(b, 0)
	y.take(a, 0)
	x.refuses(api.ErrReplay, a.number, a.box, 0)
	if c.N != 0 {
		t.Error("the cipher that was handed in counted")
	}
}

// Rule 3: Seal doesn't change or keep its text, and answers new memory.
func TestSealMemory(t *testing.T) {
	for _, key := range [][]byte{row(32, 1), nil} {
		for _, size := range sizes() {
			x := both(t, sym.Cipher{Key: key}, sym.Cipher{Key: key}, wide(), 0)
			was := row(size, 3)
			text := room(was)
			n, box, e := x.seal(text, 0)
			untouched(t, text, was, "Seal", size)
			kept := bytes.Clone(box)
			spoil(text)
			if e != api.OK || !bytes.Equal(box, kept) {
				t.Fatalf("a text of %d bytes lies in the box", size)
			}
			text = room(was)
			_, box, _ = x.seal(text, 0)
			spoil(box)
			untouched(t, text, was, "Seal, when the box changes", size)
			x.opens(was, n, kept, 0)
			x.seal(was, 0)
		}
	}
}

// boxIn is a box of a text, as it goes without a key or with one.
func boxIn(t *testing.T, key []byte, n uint64, text []byte) []byte {
	t.Helper()
	if key == nil {
		return text
	}
	return boxed(t, key, n, text)
}

// Rule 3: Open doesn't change or keep its box, and answers new memory, be there a key or not.
func TestOpenMemory(t *testing.T) {
	for _, key := range [][]byte{row(32, 1), nil} {
		for _, size := range sizes() {
			x := both(t, sym.Cipher{Key: key}, sym.Cipher{Key: key}, wide(), 0)
			was := boxIn(t, key, 0, row(size, 3))
			box := room(was)
			first, e := x.open(0, box, 0)
			untouched(t, box, was, "Open", size)
			kept := bytes.Clone(first)
			spoil(box)
			if e != api.OK || !bytes.Equal(first, kept) {
				t.Fatalf("a text of %d bytes lies in its box", size)
			}
			was = boxIn(t, key, 1, row(size, 4))
			box = room(was)
			second, _ := x.open(1, box, 0)
			spoil(second)
			untouched(t, box, was, "Open, when the text changes", size)
			if !bytes.Equal(first, kept) {
				t.Fatalf("two texts of %d bytes lie in one memory", size)
			}
			x.opens(row(size, 5), 2, boxIn(t, key, 2, row(size, 5)), 0)
		}
	}
}

// Rule 3: with an error nothing that was handed in changes either.
func TestRefusedMemory(t *testing.T) {
	x := both(t, cipher(1, 0), cipher(2, 0), wide(), 0)
	for _, size := range sizes() {
		was := row(size, 5)
		box := room(was)
		x.open(7, box, 0)
		untouched(t, box, was, "Open, which was refused,", size)
		x.seal(box, greatest)
		untouched(t, box, was, "Seal, which was refused,", size)
	}
}

// P22.2, P22.3: the rules are those that were handed in, whatever becomes of them later.
func TestRulesAreCopied(t *testing.T) {
	r := Rules{Retry: 5, RetryMax: 30, Tries: 1, Rekey: 10, Expire: 20, RekeyCount: 5, ExpireCount: 9}
	x, y := started(t, r, 0), both(t, cipher(1, 0), cipher(2, 0), r, 0)
	r = Rules{}
	x.edges()
	x.again(3)
	x.edges()
	for now := range uint64(25) {
		y.asks(now)
	}
	if r != (Rules{}) || y.s.Expired(19) || !y.s.Expired(20) {
		t.Error("the rules")
	}
}

// Rule 4: the same calls have the same answers, whatever other sessions did between.
func TestNothingIsShared(t *testing.T) {
	var first []sent
	for round := range 3 {
		x, y := ends(t, wide(), 0)
		all := x.send(10, 0)
		for i, s := range all {
			y.take(s, 0)
			if round > 0 && (s.number != first[i].number || !bytes.Equal(s.box, first[i].box)) {
				t.Fatalf("round %d, the text %d: another box", round, i)
			}
		}
		first = all
	}
}
