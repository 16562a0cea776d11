package session

import (
	"math/rand"
	"testing"

	"redan/api"
)

// sent is what one end sealed.
type sent struct {
	number    uint64
	text, box []byte
}

// send seals n texts.
func (x *pair) send(n int, now uint64) []sent {
	x.t.Helper()
	var out []sent
	for i := range n {
		text := row(i%40, i)
		number, box, e := x.seal(text, now)
		if e != api.OK {
			x.t.Fatalf("the text %d: error %d", i, int(e))
		}
		out = append(out, sent{number, text, box})
	}
	return out
}

// take opens what the other end sealed, and looks that it isn't opened again.
func (x *pair) take(s sent, now uint64) {
	x.t.Helper()
	x.opens(s.text, s.number, s.box, now)
	x.refuses(api.ErrReplay, s.number, s.box, now)
}

// P22.5: two ends send each other texts, in order, both ways at once.
func TestInOrder(t *testing.T) {
	x, y := ends(t, wide(), 0)
	for now := range uint64(100) {
		y.take(x.send(1, now)[0], now)
		x.take(y.send(1, now)[0], now+1)
	}
	x.sentIs(100)
	y.sentIs(100)
}

// P22.5: what is less than a window behind is opened in any order.
func TestOutOfOrder(t *testing.T) {
	r := rand.New(rand.NewSource(1))
	for range 10 {
		x, y := ends(t, wide(), 0)
		all := x.send(128, 1)
		r.Shuffle(len(all), func(i, j int) { all[i], all[j] = all[j], all[i] })
		for _, s := range all {
			y.take(s, 2)
		}
		for _, s := range all {
			y.refuses(api.ErrReplay, s.number, s.box, 3)
		}
	}
}

// P22.5: from the last to the first one of a window: all are opened; of one more the first one is not.
func TestFromTheLastOn(t *testing.T) {
	x, y := ends(t, wide(), 0)
	all := x.send(129, 1)
	for i := 128; i > 0; i-- {
		y.take(all[i], 2)
	}
	y.refuses(api.ErrReplay, all[0].number, all[0].box, 2)
}

// P22.5: some of it is lost, some comes twice, some late, some forged: each one is opened once at most, as it was sent.
func TestLostAndDoubled(t *testing.T) {
	r := rand.New(rand.NewSource(2))
	for range 20 {
		x, y := ends(t, wide(), 0)
		var onTheWay []sent
		opened := map[uint64]int{}
		for range 150 {
			onTheWay = append(onTheWay, x.send(r.Intn(4), 1)...)
			for range r.Intn(6) {
				if len(onTheWay) == 0 {
					break
				}
				s := onTheWay[r.Intn(len(onTheWay))]
				box := s.box
				if r.Intn(4) == 0 {
					box = turned(box, r.Intn(8*len(box)))
				}
				if text, e := y.open(s.number, box, 1); e == api.OK {
					opened[s.number]++
					if string(text) != string(s.text) {
						t.Fatalf("number %d: %x, not %x", s.number, text, s.text)
					}
				}
			}
		}
		for n, times := range opened {
			if times != 1 {
				t.Fatalf("number %d was opened %d times", n, times)
			}
		}
		if len(opened) < 100 {
			t.Fatalf("%d were opened", len(opened))
		}
	}
}

// P22.5: no number is opened twice, whatever box of it comes, and whenever.
func TestNoNumberTwice(t *testing.T) {
	x := both(t, cipher(1, 0), cipher(2, 0), wide(), 0)
	for _, n := range []uint64{0, 1, 5, 127, 128, 200, 1 << 40, greatest - 1} {
		x.opens([]byte("one"), n, boxed(t, row(32, 2), n, []byte("one")), 5)
		for _, text := range []string{"one", "two", ""} {
			for _, now := range []uint64{0, 5, greatest - 1} {
				x.refuses(api.ErrReplay, n, boxed(t, row(32, 2), n, []byte(text)), now)
			}
		}
	}
}

// P22.5: no more than ExpireCount are sealed, however often it is tried, from whatever number on.
func TestNoMoreThanExpireCount(t *testing.T) {
	for _, count := range []uint64{0, 1, 2, 7, 40} {
		for _, first := range []uint64{0, 3, 1 << 32, greatest - 60, greatest - 3, greatest} {
			r := wide()
			r.ExpireCount = count
			x := both(t, cipher(1, first), cipher(2, 0), r, 0)
			sealed := uint64(0)
			for now := range uint64(60) {
				if _, _, e := x.seal([]byte("text"), now); e == api.OK {
					sealed++
				}
			}
			if want := min(count, greatest-first); sealed != want {
				t.Fatalf("%d sealed of %d, from %d on", sealed, want, first)
			}
			x.sentIs(sealed)
		}
	}
}

// P22.5: none is sealed when it is too old, and none is opened then.
func TestNoneWhenTooOld(t *testing.T) {
	r := wide()
	r.Expire = 10
	x, y := ends(t, r, 100)
	for now := range uint64(130) {
		n, box, e := x.seal([]byte("text"), now)
		if (e == api.OK) != (now < 110) {
			t.Fatalf("at %d: error %d", now, int(e))
		}
		if e == api.OK {
			y.opens([]byte("text"), n, box, now)
		}
	}
}

// P22.5: what was sealed while there was time is opened till the other end's own time has come.
func TestOpenedTillItsTime(t *testing.T) {
	r := wide()
	r.Expire = 10
	x := both(t, cipher(1, 0), cipher(2, 0), r, 100)
	y := both(t, cipher(2, 0), cipher(1, 0), r, 104)
	all := x.send(4, 109)
	y.take(all[0], 109)
	y.take(all[1], 113)
	y.refuses(api.ErrExpired, all[2].number, all[2].box, 114)
	y.refuses(api.ErrExpired, all[0].number, all[0].box, 114)
	y.take(all[2], 113)
}

// P22.5: a session doesn't open what it sealed itself, unless its ciphers are one.
func TestOwnBoxes(t *testing.T) {
	x, _ := ends(t, wide(), 0)
	own := x.send(1, 0)[0]
	x.refuses(api.ErrAuth, own.number, own.box, 0)
	y := both(t, cipher(1, 0), cipher(1, 0), wide(), 0)
	y.take(y.send(1, 0)[0], 0)
}
