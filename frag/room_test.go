package frag

import (
	"math"
	"testing"

	"redan/api"
)

// P19.2, P19.3: Peer and All just as great as what is put in, one byte less, 0, and below 0, which counts as 0.
func TestLimits(t *testing.T) {
	for _, size := range []int{1, 2, 500, 1023, 1024} {
		for _, c := range []struct {
			peer, all int
			fits      bool
		}{
			{size, size, true}, {size - 1, size, false}, {size, size - 1, false}, {size - 1, size - 1, false},
			{size + 1, size, true}, {size, size + 1, true}, {math.MaxInt, math.MaxInt, true}, {math.MaxInt, size - 1, false}, {size - 1, math.MaxInt, false},
			{0, 0, false}, {0, size, false}, {size, 0, false}, {-1, -1, false}, {-1, size, false}, {size, -1, false},
			{math.MinInt, math.MinInt, false}, {math.MinInt, math.MaxInt, false}, {math.MaxInt, math.MinInt, false}, {-size, -size, false},
		} {
			for parts := 1; parts <= 64; parts += 21 {
				w := both(t, Limits{Peer: c.peer, All: c.all})
				got, e := w.add("p", 0, parts-1, parts, mess("body", size), 0)
				if c.fits != (e == api.OK) || !c.fits && e != api.ErrRoom || len(got) > 0 != (c.fits && parts == 1) {
					t.Fatalf("%d bytes, parts %d, %+v: %d bytes, error %d", size, parts, c, len(got), int(e))
				}
			}
		}
	}
}

// P19.3: the last piece of a message needs room too, though nothing is kept of it.
func TestWholeNeedsRoom(t *testing.T) {
	message, pieces := said("message", 3, 100)
	for _, l := range []Limits{{Peer: 2147, All: 9999}, {Peer: 9999, All: 2147}} {
		w := both(t, l)
		w.adds(api.OK, "p", 0, 0, 3, pieces[0], 0)
		w.adds(api.OK, "p", 0, 1, 3, pieces[1], 0)
		w.adds(api.ErrRoom, "p", 0, 2, 3, pieces[2], 0)
		w.has(key{"p", 0})
		w.adds(api.ErrRoom, "p", 0, 2, 3, pieces[2], 0)
	}
	w := both(t, Limits{Peer: 2148, All: 2148})
	w.adds(api.OK, "p", 0, 0, 3, pieces[0], 0)
	w.adds(api.OK, "p", 0, 1, 3, pieces[1], 0)
	w.tells(message, "p", 0, 2, 3, pieces[2], 0)
	w.has()
}

// crowd is a buffer with entries of p, msgs 0 to 2, of 100 bytes each, begun in that order at these times, and one of
// q between them that is older than all; there is room for so many bytes of p.
func crowd(t *testing.T, peer, all int, births [3]uint64) *pair {
	t.Helper()
	w := both(t, Limits{Peer: peer, All: all, Age: math.MaxUint64})
	w.adds(api.OK, "p", 0, 2, 3, mess("0", 100), births[0])
	w.adds(api.OK, "q", 0, 1, 2, mess("q", 100), 0)
	w.adds(api.OK, "p", 1, 3, 4, mess("1", 100), births[1])
	w.adds(api.OK, "p", 2, 4, 5, mess("2", 100), births[2])
	return w
}

// left are what is left of crowd's entries without some of p's, and a new one of p, msg.
func left(msg int, gone ...int) []key {
	out := []key{{"p", 0}, {"q", 0}, {"p", 1}, {"p", 2}}
	for _, g := range gone {
		for i, k := range out {
			if k == (key{"p", g}) {
				out = append(out[:i:i], out[i+1:]...)
				break
			}
		}
	}
	return append(out, key{"p", msg})
}

// P19.3: the peer's other entries go, the one that was born first first, of two born at once the one that was begun
// first, and no more of them than must.
func TestWhichGoFirst(t *testing.T) {
	for _, c := range []struct {
		births [3]uint64
		order  [3]int
	}{
		{[3]uint64{1, 2, 3}, [3]int{0, 1, 2}}, {[3]uint64{1, 3, 2}, [3]int{0, 2, 1}}, {[3]uint64{2, 1, 3}, [3]int{1, 0, 2}},
		{[3]uint64{2, 3, 1}, [3]int{2, 0, 1}}, {[3]uint64{3, 1, 2}, [3]int{1, 2, 0}}, {[3]uint64{3, 2, 1}, [3]int{2, 1, 0}},
		{[3]uint64{5, 5, 5}, [3]int{0, 1, 2}}, {[3]uint64{5, 5, 4}, [3]int{2, 0, 1}}, {[3]uint64{5, 4, 5}, [3]int{1, 0, 2}},
		{[3]uint64{4, 5, 5}, [3]int{0, 1, 2}}, {[3]uint64{5, 4, 4}, [3]int{1, 2, 0}}, {[3]uint64{4, 5, 4}, [3]int{0, 2, 1}}, {[3]uint64{4, 4, 5}, [3]int{0, 1, 2}},
		{[3]uint64{0, math.MaxUint64, 1}, [3]int{0, 2, 1}}, {[3]uint64{math.MaxUint64, 0, 1 << 63}, [3]int{1, 2, 0}},
	} {
		for size := 1; size <= 500; size += 33 {
			w := crowd(t, 500, 9999, c.births)
			gone := min(max(size-200+99, 0)/100, 3)
			w.adds(api.OK, "p", 7, 1, 2, mess("new", size), 0)
			w.has(left(7, c.order[:gone]...)...)
		}
	}
}

// P19.3: the edges of it: not one byte more goes than must.
func TestHowManyGo(t *testing.T) {
	for _, c := range []struct{ size, gone int }{
		{1, 0}, {199, 0}, {200, 0}, {201, 1}, {300, 1}, {301, 2}, {400, 2}, {401, 3}, {499, 3}, {500, 3},
	} {
		w := crowd(t, 500, 9999, [3]uint64{3, 1, 2})
		w.adds(api.OK, "p", 7, 1, 2, mess("new", c.size), 9)
		w.has(left(7, []int{1, 2, 0}[:c.gone]...)...)
		w = crowd(t, 500, 9999, [3]uint64{3, 1, 2})
		w.tells(mess("new", c.size), "p", 7, 0, 1, mess("new", c.size), 9)
		want := left(7, []int{1, 2, 0}[:c.gone]...)
		w.has(want[:len(want)-1]...)
	}
	w := crowd(t, 500, 9999, [3]uint64{3, 1, 2})
	w.adds(api.ErrRoom, "p", 7, 1, 2, mess("new", 501), 9)
	w.has(key{"p", 0}, key{"q", 0}, key{"p", 1}, key{"p", 2})
}

// P19.3: the entry of the piece itself never goes, though it is the one that was born first; nor those of others.
func TestOwnEntryStays(t *testing.T) {
	for own := range 3 {
		births := [3]uint64{5, 5, 5}
		births[own] = 1
		first, second := (own+1)%3, (own+2)%3
		if first > second {
			first, second = second, first
		}
		for _, c := range []struct {
			room, gone int
			want       api.Errno
		}{{1323, 1, api.OK}, {1324, 0, api.OK}, {1224, 1, api.OK}, {1223, 2, api.OK}, {1124, 2, api.OK}, {1123, 0, api.ErrRoom}, {300, 0, api.ErrRoom}} {
			w := crowd(t, c.room, 9999, births)
			w.adds(c.want, "p", own, 0, own+3, full("more"), 1)
			all := left(own, []int{first, second}[:c.gone]...)
			w.has(all[:len(all)-1]...)
		}
	}
}

// P19.3: ErrRoom in Peer, even without all others: none of them goes, nor does any entry change.
func TestNoRoomInPeer(t *testing.T) {
	w := crowd(t, 1000, 9999, [3]uint64{1, 2, 3})
	for msg := 3; msg < 8; msg++ {
		w.adds(api.ErrRoom, "p", msg, 0, 2, full("much"), 5)
		w.adds(api.ErrRoom, "p", msg, 0, 1, full("much"), 5)
	}
	for msg := range 3 {
		w.adds(api.ErrRoom, "p", msg, 0, msg+3, full("much"), 5)
	}
	w.has(key{"p", 0}, key{"q", 0}, key{"p", 1}, key{"p", 2})
	w.adds(api.OK, "p", 0, 2, 3, mess("0", 100), 5)
	w.adds(api.OK, "p", 1, 3, 4, mess("1", 100), 5)
	w.adds(api.OK, "p", 2, 4, 5, mess("2", 100), 5)
	w.adds(api.ErrFrag, "p", 2, 4, 5, mess("x", 100), 5)
	w.adds(api.OK, "p", 3, 7, 8, mess("fits", 1000), 5)
	w.has(key{"q", 0}, key{"p", 3})
}

// P19.3: ErrRoom in All: none goes, of that peer or of another one, where there is room in Peer.
func TestNoRoomInAll(t *testing.T) {
	w := crowd(t, 9999, 500, [3]uint64{1, 2, 3})
	for _, peer := range names() {
		w.adds(api.ErrRoom, peer, 7, 0, 1, mess("much", 101), 5)
		w.adds(api.ErrRoom, peer, 7, 0, 2, full("much"), 5)
		w.has(key{"p", 0}, key{"q", 0}, key{"p", 1}, key{"p", 2})
		w.tells(mess("fits", 100), peer, 7, 0, 1, mess("fits", 100), 5)
	}
	w.adds(api.OK, "", 7, 1, 2, mess("fits", 100), 5)
	w.adds(api.ErrRoom, "p", 7, 1, 2, []byte{1}, 5)
	w.has(key{"p", 0}, key{"q", 0}, key{"p", 1}, key{"p", 2}, key{"", 7})
}

// P19.3: what goes for Peer makes room in All; where that isn't enough nothing goes at all. Of p 300 bytes are held, of
// q 100.
func TestRoomInAllByPeer(t *testing.T) {
	for _, c := range []struct {
		peer, all, size, gone int
		want                  api.Errno
	}{
		{400, 400, 50, 0, api.ErrRoom}, {400, 449, 50, 0, api.ErrRoom}, {400, 450, 50, 0, api.OK},
		{300, 400, 1, 1, api.OK}, {300, 400, 100, 1, api.OK}, {300, 400, 101, 2, api.OK}, {300, 400, 300, 3, api.OK}, {300, 400, 301, 0, api.ErrRoom},
		{350, 449, 150, 0, api.ErrRoom}, {350, 450, 150, 1, api.OK}, {350, 449, 151, 2, api.OK}, {350, 449, 249, 2, api.OK},
		{350, 449, 250, 0, api.ErrRoom}, {350, 450, 250, 2, api.OK}, {350, 449, 251, 3, api.OK},
		{400, 499, 400, 0, api.ErrRoom}, {400, 500, 400, 3, api.OK}, {400, 500, 401, 0, api.ErrRoom},
	} {
		w := crowd(t, c.peer, c.all, [3]uint64{1, 2, 3})
		w.adds(c.want, "p", 7, 1, 2, mess("new", c.size), 5)
		want := left(7, []int{0, 1, 2}[:c.gone]...)
		if c.want != api.OK {
			want = want[:4]
		}
		w.has(want...)
	}
}

// P19.3: an entry that went is begun anew by its next piece, behind all others; what came of it before is gone.
func TestGoneIsBegunAnew(t *testing.T) {
	message, pieces := said("message", 3, 100)
	w := both(t, Limits{Peer: 2200, All: 5000, Age: 9})
	w.adds(api.OK, "p", 0, 2, 3, pieces[2], 4)
	w.adds(api.OK, "p", 1, 2, 3, pieces[2], 4)
	w.adds(api.OK, "p", 2, 0, 3, pieces[0], 4)
	w.adds(api.OK, "p", 2, 1, 3, pieces[1], 4) // 0 goes
	w.has(key{"p", 1}, key{"p", 2})
	w.adds(api.OK, "p", 0, 1, 5, full("other"), 4) // 1 and 2 go
	w.has(key{"p", 0})
	w.adds(api.OK, "p", 2, 2, 3, pieces[2], 4)
	w.adds(api.OK, "p", 2, 1, 3, pieces[1], 4)
	w.has(key{"p", 0}, key{"p", 2})
	w.tells(message, "p", 2, 0, 3, pieces[0], 4) // 0 goes
	w.has()
}

// P19.3: one that goes and comes again isn't the one that was begun first any more.
func TestOrderOfBegunAnew(t *testing.T) {
	w := both(t, Limits{Peer: 300, All: 5000, Age: 9})
	hundred := mess("hundred", 100)
	for msg := range 3 {
		w.adds(api.OK, "p", msg, 1, 2, hundred, 4)
	}
	w.adds(api.OK, "p", 3, 1, 2, hundred, 4) // 0 goes
	w.has(key{"p", 1}, key{"p", 2}, key{"p", 3})
	w.adds(api.OK, "p", 0, 1, 2, hundred, 4) // 1 goes
	w.has(key{"p", 2}, key{"p", 3}, key{"p", 0})
	w.adds(api.OK, "p", 1, 1, 2, hundred, 3) // 2 goes
	w.has(key{"p", 3}, key{"p", 0}, key{"p", 1})
	w.adds(api.OK, "p", 2, 1, 2, hundred, 4) // 1 goes, which was born first
	w.has(key{"p", 3}, key{"p", 0}, key{"p", 2})
}

// P19.3: each peer has room of its own in Peer.
func TestRoomOfEachPeer(t *testing.T) {
	w := both(t, Limits{Peer: 1024, All: 6 * 1024})
	var all []key
	for i, peer := range names() {
		w.adds(api.OK, peer, i, 0, 2, full(peer), uint64(9-i))
		all = append(all, key{peer, i})
	}
	w.has(all...)
	w.adds(api.OK, "q", 7, 0, 2, full("more"), 0)
	w.has(all[0], all[2], all[3], all[4], all[5], key{"q", 7})
	w.adds(api.ErrRoom, "new", 0, 0, 1, []byte{1}, 0)
	w.drop("")
	w.tells([]byte{1}, "new", 0, 0, 1, []byte{1}, 0)
}

// P19.3: what goes or is told leaves room.
func TestRoomBehindWhatGoes(t *testing.T) {
	message, pieces := said("message", 2, 1024)
	w := both(t, Limits{Peer: 2048, All: 2048, Age: 3})
	for range 5 {
		w.adds(api.OK, "p", 0, 0, 2, pieces[0], 1)
		w.tells(message, "p", 0, 1, 2, pieces[1], 1)
		w.adds(api.OK, "q", 0, 0, 3, pieces[0], 1)
		w.adds(api.OK, "p", 0, 0, 3, pieces[0], 1)
		w.adds(api.ErrRoom, "p", 0, 1, 3, pieces[1], 1)
		w.drop("q")
		w.adds(api.OK, "p", 0, 1, 3, pieces[1], 1)
		w.adds(api.ErrRoom, "q", 0, 1, 2, []byte{1}, 1)
		w.expire(5)
		w.adds(api.OK, "q", 0, 1, 2, []byte{1}, 1)
		w.drop("q")
	}
}
