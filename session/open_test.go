package session

import (
	"bytes"
	"testing"

	"redan/api"
	"redan/sym"
)

// receiver is a session that opens what the key of that seed seals, born at 0, of age 100.
func receiver(t *testing.T, seed int) *pair {
	t.Helper()
	r := wide()
	r.Expire = 100
	return both(t, cipher(99, 0), cipher(seed, 0), r, 0)
}

// turned is a row with one bit changed.
func turned(b []byte, bit int) []byte {
	out := bytes.Clone(b)
	out[bit/8] ^= 1 << (bit % 8)
	return out
}

// P22.4: what the AEAD seals with nothing beside is opened, whatever its number and its size.
func TestOpenOfTheAead(t *testing.T) {
	for _, n := range edges() {
		if n == greatest {
			continue
		}
		x := receiver(t, 2)
		for i, size := range sizes() {
			if uint64(i) >= greatest-n {
				break
			}
			box := boxed(t, row(32, 2), n+uint64(i), row(size, i))
			x.opens(row(size, i), n+uint64(i), box, 5)
			x.refuses(api.ErrReplay, n+uint64(i), box, 5)
		}
	}
}

// P22.4: what something stands beside isn't opened; nor what another key sealed, be it the first cipher's.
func TestOpenOfOthers(t *testing.T) {
	x := receiver(t, 2)
	c := cipher(2, 0)
	beside, _ := c.Seal([]byte("beside"), []byte("text"))
	x.refuses(api.ErrAuth, 0, beside, 5)
	x.refuses(api.ErrAuth, 0, boxed(t, row(32, 3), 0, []byte("text")), 5)
	x.refuses(api.ErrAuth, 0, boxed(t, row(32, 99), 0, []byte("text")), 5)
	x.opens([]byte("text"), 0, boxed(t, row(32, 2), 0, []byte("text")), 5)
}

// P22.4: a box that is forged in any bit, and behind that the true one of its number.
func TestOpenForged(t *testing.T) {
	for _, text := range [][]byte{nil, []byte("text")} {
		x := receiver(t, 2)
		box := boxed(t, row(32, 2), 3, text)
		for bit := range 8 * len(box) {
			x.refuses(api.ErrAuth, 3, turned(box, bit), 5)
		}
		x.opens(text, 3, box, 5)
		x.refuses(api.ErrReplay, 3, turned(box, 5), 5)
		x.refuses(api.ErrReplay, 3, box, 5)
	}
}

// P22.4: a box that is cut, at either end, or longer, and behind that the true one.
func TestOpenCut(t *testing.T) {
	x := receiver(t, 2)
	box := boxed(t, row(32, 2), 3, row(40, 1))
	for size := range box {
		want := api.ErrAuth
		if size < 16 {
			want = api.ErrShort
		}
		x.refuses(want, 3, box[:size], 5)
		x.refuses(want, 3, box[len(box)-size:], 5)
	}
	x.refuses(api.ErrAuth, 3, append(bytes.Clone(box), 0), 5)
	x.refuses(api.ErrAuth, 3, append([]byte{0}, box...), 5)
	x.refuses(api.ErrShort, 3, nil, 5)
	x.opens(row(40, 1), 3, box, 5)
}

// P22.4: a box of another number, and behind that the true ones of both.
func TestOpenOfAnotherNumber(t *testing.T) {
	x := receiver(t, 2)
	one, two := boxed(t, row(32, 2), 1, []byte("one")), boxed(t, row(32, 2), 2, []byte("two"))
	x.refuses(api.ErrAuth, 2, one, 5)
	x.refuses(api.ErrAuth, 1, two, 5)
	x.refuses(api.ErrAuth, 1<<32|1, one, 5)
	x.refuses(api.ErrAuth, 1<<63|2, two, 5)
	x.opens([]byte("two"), 2, two, 5)
	x.opens([]byte("one"), 1, one, 5)
	x.refuses(api.ErrReplay, 2, one, 5)
	x.refuses(api.ErrReplay, 1, two, 5)
}

// P22.4: forged numbers, however great, move nothing: the true ones of small numbers are opened behind them.
func TestForgedNumbersMoveNothing(t *testing.T) {
	x := receiver(t, 2)
	for _, n := range edges() {
		want := api.ErrAuth
		if n == greatest {
			want = api.ErrNonce
		}
		x.refuses(want, n, row(30, 7), 5)
	}
	for _, n := range []uint64{0, 1, 2, 200} {
		x.opens([]byte("text"), n, boxed(t, row(32, 2), n, []byte("text")), 5)
	}
}

// P22.4: when it is too old nothing is opened; at an earlier moment it still is.
func TestOpenTooOld(t *testing.T) {
	x := both(t, cipher(99, 0), cipher(2, 0), Rules{Expire: 100, ExpireCount: 9}, 1000)
	n := uint64(0)
	for _, now := range []uint64{1099, 1100, 1101, 1098, greatest, 0, 999, 1000, 1100} {
		box := boxed(t, row(32, 2), n, row(10, int(n)))
		if now >= 1100 {
			x.refuses(api.ErrExpired, n, box, now)
			continue
		}
		x.opens(row(10, int(n)), n, box, now)
		n++
	}
}

// P22.4: of ages of 0 nothing is opened.
func TestOpenOfNoAge(t *testing.T) {
	r := wide()
	r.Expire = 0
	x := both(t, cipher(99, 0), cipher(2, 0), r, 10)
	for _, now := range []uint64{0, 9, 10, 11, greatest} {
		x.refuses(api.ErrExpired, 0, boxed(t, row(32, 2), 0, []byte("text")), now)
	}
}

// P22.4: counts don't hinder Open, be they reached from the beginning on or later.
func TestCountsDontHinderOpen(t *testing.T) {
	for _, count := range []uint64{0, 1, 3} {
		r := wide()
		r.ExpireCount, r.RekeyCount = count, 0
		x := both(t, cipher(1, 0), cipher(2, 0), r, 0)
		for n := range count {
			x.seals(api.OK, n, []byte("text"), 1)
		}
		x.seals(api.ErrExpired, 0, []byte("text"), 1)
		for n := range uint64(5) {
			x.opens(row(10, int(n)), n, boxed(t, row(32, 2), n, row(10, int(n))), 2)
		}
		x.sentIs(count)
	}
}

// P22.4: the window's edges: 127 below the greatest one that came is opened, 128 below it is not.
func TestOpenByTheWindow(t *testing.T) {
	for _, top := range []uint64{200, 1 << 32, 1 << 63, greatest - 1} {
		x := receiver(t, 2)
		open := func(n uint64) { x.opens(nil, n, boxed(t, row(32, 2), n, nil), 5) }
		refuse := func(n uint64) { x.refuses(api.ErrReplay, n, boxed(t, row(32, 2), n, nil), 5) }
		open(top)
		refuse(top)
		refuse(top - 128)
		open(top - 127)
		refuse(top - 127)
		open(top - 1)
		refuse(top - 1)
		refuse(top - 129)
		refuse(0)
		if top < greatest-1 {
			open(top + 1)
			refuse(top - 127)
			open(top - 126)
		}
	}
}

// P22.4: what is refused moves no window: the ones 128 below it are still opened.
func TestRefusedMovesNoWindow(t *testing.T) {
	x := receiver(t, 2)
	x.opens(nil, 50, boxed(t, row(32, 2), 50, nil), 5)
	x.refuses(api.ErrAuth, 1000, boxed(t, row(32, 2), 999, nil), 5)
	x.refuses(api.ErrShort, 1000, nil, 5)
	x.refuses(api.ErrNonce, greatest, row(30, 1), 5)
	x.refuses(api.ErrExpired, 1000, boxed(t, row(32, 2), 1000, nil), 100)
	x.opens(nil, 0, boxed(t, row(32, 2), 0, nil), 5)
	x.opens(nil, 1000, boxed(t, row(32, 2), 1000, nil), 5)
	x.refuses(api.ErrReplay, 51, boxed(t, row(32, 2), 51, nil), 5)
}

// P22.4: errors come as they are, in the order of the chapter: age, the window's, the cipher's.
func TestOpenErrorsInOrder(t *testing.T) {
	short, long := row(15, 1), row(16, 1)
	for _, c := range []struct {
		name   string
		key    []byte
		number uint64
		box    []byte
		now    uint64
		want   api.Errno
	}{
		{"forged", row(32, 2), 107, long, 5, api.ErrAuth},
		{"short", row(32, 2), 107, short, 5, api.ErrShort},
		{"the greatest number, forged", row(32, 2), greatest, long, 5, api.ErrNonce},
		{"the greatest number, short", row(32, 2), greatest, short, 5, api.ErrNonce},
		{"the greatest number, a key of 31 bytes", row(31, 2), greatest, short, 5, api.ErrArg},
		{"a key of 1 byte", row(1, 2), 107, long, 5, api.ErrArg},
		{"a key of 33 bytes, short", row(33, 2), 107, short, 5, api.ErrArg},
		{"too old, forged", row(32, 2), 107, long, 100, api.ErrExpired},
		{"too old, short, the greatest number, a key of 31 bytes", row(31, 2), greatest, short, 100, api.ErrExpired},
		{"came, forged", row(32, 2), 200, long, 5, api.ErrReplay},
		{"came, short", row(32, 2), 200, short, 5, api.ErrReplay},
		{"too old for the window, forged", row(32, 2), 72, long, 5, api.ErrReplay},
		{"too old for the window, short", row(32, 2), 72, nil, 5, api.ErrReplay},
		{"came, too old", row(32, 2), 200, long, 100, api.ErrExpired},
	} {
		r := wide()
		r.Expire = 100
		x := both(t, cipher(1, 0), sym.Cipher{Key: c.key}, r, 0)
		if len(c.key) == 32 {
			x.opens([]byte("came"), 200, boxed(t, c.key, 200, []byte("came")), 5)
		}
		t.Log(c.name)
		x.refuses(c.want, c.number, c.box, c.now)
		x.refuses(c.want, c.number, c.box, c.now)
	}
}

// P22.4: without a key what comes is the text, of each number once, the greatest one too.
func TestOpenWithoutKey(t *testing.T) {
	r := wide()
	r.Expire = 100
	for _, key := range [][]byte{nil, {}} {
		x := both(t, cipher(1, 0), sym.Cipher{Key: key, N: 5}, r, 0)
		for i, n := range []uint64{0, 1, 5, 200, 100, greatest, greatest - 1, greatest - 127} {
			x.opens(row(i*5, i), n, row(i*5, i), 5)
			x.refuses(api.ErrReplay, n, row(i*5, i), 5)
			x.refuses(api.ErrExpired, n, row(i*5, i), 100)
		}
		x.refuses(api.ErrReplay, greatest-128, nil, 5)
		x.refuses(api.ErrReplay, 201, nil, 5)
	}
}

// P22.4: a key of another length than 32 opens nothing, and lets nothing come.
func TestOpenWithBadKeys(t *testing.T) {
	for _, size := range []int{1, 16, 31, 33, 64} {
		x := both(t, cipher(1, 0), sym.Cipher{Key: row(size, 1)}, wide(), 0)
		for _, n := range edges() {
			x.refuses(api.ErrArg, n, row(40, 1), 5)
			x.refuses(api.ErrArg, n, nil, 5)
		}
		x.seals(api.OK, 0, []byte("text"), 5)
	}
}
