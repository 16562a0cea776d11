package session

import (
	"bytes"
	"testing"

	"redan/api"
	"redan/sym"
)

// sizes are those of texts: none, those about a block's size, and many.
func sizes() []int { return []int{0, 1, 15, 16, 17, 63, 64, 65, 500} }

// P22.4: what is sealed is the cipher's, with nothing beside, and the number is the one ahead of it.
func TestSealByTheCipher(t *testing.T) {
	x := both(t, cipher(1, 0), cipher(2, 0), wide(), 0)
	c := cipher(1, 0)
	for n, size := range sizes() {
		box := x.seals(api.OK, uint64(n), row(size, n), uint64(n))
		want, e := c.Seal(nil, row(size, n))
		if e != api.OK || !bytes.Equal(box, want) || !bytes.Equal(box, boxed(t, row(32, 1), uint64(n), row(size, n))) {
			t.Fatalf("%d bytes, number %d: %x, not %x", size, n, box, want)
		}
	}
}

// P22.4: the first cipher seals, not the second one.
func TestSealIsOfTheFirst(t *testing.T) {
	x := both(t, cipher(1, 5), cipher(2, 9), wide(), 0)
	box := x.seals(api.OK, 5, []byte("text"), 0)
	if !bytes.Equal(box, boxed(t, row(32, 1), 5, []byte("text"))) {
		t.Errorf("%x", box)
	}
}

// P22.4: nil, texts without bytes, and texts one behind the other are sealed alike.
func TestSealOfNothing(t *testing.T) {
	x, y := ends(t, wide(), 0)
	for n, text := range [][]byte{nil, {}, make([]byte, 0, 10)} {
		box := x.seals(api.OK, uint64(n), text, 0)
		if len(box) != 16 {
			t.Errorf("a box of %d bytes", len(box))
		}
		y.opens(nil, uint64(n), box, 0)
	}
}

// P22.4: when it is too old nothing is sealed; at an earlier moment it still is.
func TestSealTooOld(t *testing.T) {
	r := wide()
	r.Expire = 100
	x := both(t, cipher(1, 0), cipher(2, 0), r, 1000)
	n := uint64(0)
	for _, now := range []uint64{1099, 1100, 1101, 1098, greatest, 0, 999, 1000, 1100} {
		if now >= 1100 {
			x.seals(api.ErrExpired, 0, []byte("text"), now)
			continue
		}
		x.seals(api.OK, n, []byte("text"), now)
		n++
	}
}

// P22.4: when there were as many as there may be nothing is sealed any more, at no moment.
func TestSealTooMany(t *testing.T) {
	for count := range uint64(4) {
		r := wide()
		r.ExpireCount = count
		x := both(t, cipher(1, 0), cipher(2, 0), r, 10)
		for n := range count {
			x.seals(api.OK, n, []byte("text"), 20)
		}
		for _, now := range []uint64{0, 10, 20, 30, greatest - 1} {
			x.seals(api.ErrExpired, 0, []byte("text"), now)
		}
		x.sentIs(count)
	}
}

// P22.4: that it is time for other keys hinders nothing.
func TestRekeyHindersNothing(t *testing.T) {
	r := wide()
	r.Rekey, r.RekeyCount = 0, 0
	x, y := ends(t, r, 0)
	for n := range uint64(5) {
		box := x.seals(api.OK, n, []byte("text"), n)
		y.opens([]byte("text"), n, box, n)
	}
}

// P22.4: errors of the cipher come as they are, those of age and count ahead of them.
func TestSealErrorsInOrder(t *testing.T) {
	for _, c := range []struct {
		name           string
		send           sym.Cipher
		now, count     uint64
		want           api.Errno
		number, behind uint64
	}{
		{"right", cipher(1, 7), 5, 9, api.OK, 7, 1},
		{"right, without a key", sym.Cipher{N: 7}, 5, 9, api.OK, 7, 1},
		{"right, without a key, at the greatest number", sym.Cipher{N: greatest}, 5, 9, api.OK, greatest, 1},
		{"a key of 31 bytes", sym.Cipher{Key: row(31, 1)}, 5, 9, api.ErrArg, 0, 0},
		{"a key of 33 bytes, numbers used up", sym.Cipher{Key: row(33, 1), N: greatest}, 5, 9, api.ErrArg, 0, 0},
		{"numbers used up", cipher(1, greatest), 5, 9, api.ErrNonce, 0, 0},
		{"too old, numbers used up", cipher(1, greatest), 100, 9, api.ErrExpired, 0, 0},
		{"too old, a key of 31 bytes", sym.Cipher{Key: row(31, 1)}, 100, 9, api.ErrExpired, 0, 0},
		{"too many, numbers used up", cipher(1, greatest), 5, 0, api.ErrExpired, 0, 0},
		{"too many, a key of 31 bytes", sym.Cipher{Key: row(31, 1)}, 5, 0, api.ErrExpired, 0, 0},
		{"too old, without a key", sym.Cipher{}, 100, 9, api.ErrExpired, 0, 0},
	} {
		r := wide()
		r.Expire, r.ExpireCount = 100, c.count
		x := both(t, c.send, cipher(2, 0), r, 0)
		n, box, e := x.seal([]byte("text"), c.now)
		if n != c.number || e != c.want || e != api.OK && box != nil {
			t.Errorf("%s: %d, %x, error %d", c.name, n, box, int(e))
		}
		x.sentIs(c.behind)
	}
}

// P22.4: a cipher without a key seals nothing: its texts go as they are, all with the number that it has, and are counted.
func TestSealWithoutKey(t *testing.T) {
	r := wide()
	r.ExpireCount = 4
	for _, key := range [][]byte{nil, {}} {
		x := both(t, sym.Cipher{Key: key, N: 9}, cipher(2, 0), r, 0)
		for n := range uint64(4) {
			text := row(int(n)*7, int(n))
			if box := x.seals(api.OK, 9, text, 0); !bytes.Equal(box, text) {
				t.Fatalf("%x, not %x", box, text)
			}
		}
		x.seals(api.ErrExpired, 0, []byte("text"), 0)
	}
}

// P22.4: of nil.
func TestNilSession(t *testing.T) {
	var s *Session
	for _, now := range edges() {
		if n, box, e := s.Seal([]byte("text"), now); n != 0 || box != nil || e != api.ErrArg {
			t.Errorf("Seal at %d: %d, %x, error %d", now, n, box, int(e))
		}
		if text, e := s.Open(now, row(20, 1), now); text != nil || e != api.ErrArg {
			t.Errorf("Open at %d: %x, error %d", now, text, int(e))
		}
		if !s.Rekey(now) || !s.Expired(now) || s.Sent() != 0 {
			t.Errorf("at %d: %v, %v, %d", now, s.Rekey(now), s.Expired(now), s.Sent())
		}
	}
}

// Rule 1: of a session that New didn't make no call panics.
func TestSessionThatWasNotMade(t *testing.T) {
	s := new(Session)
	s.Seal([]byte("text"), 5)
	s.Open(5, row(20, 1), 5)
	s.Rekey(5)
	s.Expired(5)
	s.Sent()
}
