package frag

import (
	"math"
	"testing"

	"redan/api"
)

// times are edges of times and ages.
func times() []uint64 {
	return []uint64{0, 1, 2, 3, 100, 101, 1<<32 - 1, 1 << 32, 1<<63 - 1, 1 << 63, 1<<63 + 1, math.MaxUint64 - 2, math.MaxUint64 - 1, math.MaxUint64}
}

// aged is a buffer with one entry of p, born then.
func aged(t *testing.T, age, birth uint64) *pair {
	t.Helper()
	w := both(t, Limits{Peer: 1 << 20, All: 1 << 20, Age: age})
	w.adds(api.OK, "p", 1, 0, 2, full("a"), birth)
	return w
}

// P19.2: an entry goes just if its birth is before now, by more than Age: by Age, by one less, by one more, and now
// ahead of the birth.
func TestExpireByHand(t *testing.T) {
	for _, c := range []struct {
		age, birth, now uint64
		stays           bool
	}{
		{5, 10, 14, true}, {5, 10, 15, true}, {5, 10, 16, false}, {5, 10, 10, true}, {5, 10, 9, true}, {5, 10, 5, true}, {5, 10, 4, true}, {5, 10, 0, true},
		{5, 10, math.MaxUint64, false}, {5, 0, 5, true}, {5, 0, 6, false}, {5, math.MaxUint64, 0, true}, {5, math.MaxUint64, math.MaxUint64, true},
		{0, 10, 10, true}, {0, 10, 11, false}, {0, 10, 9, true}, {0, 0, 0, true}, {0, 0, 1, false}, {0, math.MaxUint64, math.MaxUint64, true}, {0, math.MaxUint64 - 1, math.MaxUint64, false},
		{math.MaxUint64, 0, math.MaxUint64, true}, {math.MaxUint64, math.MaxUint64, 0, true},
		{math.MaxUint64 - 1, 0, math.MaxUint64, false}, {math.MaxUint64 - 1, 0, math.MaxUint64 - 1, true}, {math.MaxUint64 - 1, 1, math.MaxUint64, true},
		{math.MaxUint64 - 3, math.MaxUint64 - 1, math.MaxUint64, true}, {10, math.MaxUint64 - 10, math.MaxUint64, true}, {10, math.MaxUint64 - 11, math.MaxUint64, false},
	} {
		w := aged(t, c.age, c.birth)
		w.expire(c.now)
		if stays := w.b.Count() == 1; stays != c.stays || stays != (w.b.Total() == 1024) {
			t.Errorf("%+v: Count %d, Total %d", c, w.b.Count(), w.b.Total())
		}
	}
}

// P19.2: the same of all edges, and that Add lets go what Expire does.
func TestExpireEdges(t *testing.T) {
	for _, age := range times() {
		for _, birth := range times() {
			for _, edge := range append(times(), birth+age, birth-age, birth) {
				for _, now := range []uint64{edge - 1, edge, edge + 1} {
					w := aged(t, age, birth)
					w.expire(now)
					stays := w.b.Count()
					w = aged(t, age, birth)
					w.adds(api.OK, "q", 1, 0, 2, full("b"), now)
					w.counts(stays+1, "Add at", now, "age", age, "birth", birth)
				}
			}
		}
	}
}

// P19.2: a birth is when the first piece came; further ones, and the same once more, make an entry no younger.
func TestBirthIsTheFirst(t *testing.T) {
	for _, later := range []uint64{0, 9, 11, 15} {
		w := both(t, Limits{Peer: 1 << 20, All: 1 << 20, Age: 5})
		w.adds(api.OK, "p", 1, 1, 4, full("a"), 10)
		w.adds(api.OK, "p", 1, 2, 4, full("b"), later)
		w.adds(api.OK, "p", 1, 1, 4, full("a"), later)
		w.adds(api.ErrFrag, "p", 1, 1, 4, full("b"), later)
		w.expire(15)
		w.has(key{"p", 1})
		w.expire(16)
		w.has()
	}
}

// P19.2: each entry goes by its own birth, also where they aren't in its order.
func TestExpireAmongOthers(t *testing.T) {
	w := both(t, Limits{Peer: 1 << 20, All: 1 << 20, Age: 10})
	for _, c := range []struct {
		k     key
		birth uint64
	}{{key{"p", 0}, 30}, {key{"q", 0}, 20}, {key{"p", 1}, 26}, {key{"", 7}, 22}, {key{"q", 3}, 28}, {key{"p", 2}, 20}} {
		w.adds(api.OK, c.k.peer, c.k.msg, 0, 3, full("a"), c.birth)
	}
	w.expire(30)
	w.has(key{"p", 0}, key{"q", 0}, key{"p", 1}, key{"", 7}, key{"q", 3}, key{"p", 2})
	w.expire(31)
	w.has(key{"p", 0}, key{"p", 1}, key{"", 7}, key{"q", 3})
	w.expire(33)
	w.has(key{"p", 0}, key{"p", 1}, key{"q", 3})
	w.expire(5)
	w.has(key{"p", 0}, key{"p", 1}, key{"q", 3})
	w.expire(38)
	w.has(key{"p", 0}, key{"q", 3})
	w.expire(40)
	w.has(key{"p", 0})
	w.expire(41)
	w.has()
}

// P19.3: Add lets go what is too old ahead of asking for that entry: what was of other parts or bytes is begun anew.
func TestAddAfterExpire(t *testing.T) {
	for _, now := range []uint64{15, 16} {
		w := aged(t, 5, 10)
		want := api.OK
		if now == 15 {
			want = api.ErrFrag
		}
		w.adds(want, "p", 1, 0, 2, full("b"), now)
		w = aged(t, 5, 10)
		w.adds(want, "p", 1, 1, 3, full("b"), now)
		w = aged(t, 5, 10)
		w.adds(api.OK, "p", 1, 0, 2, full("a"), now)
		w.expire(16)
		w.counts(int(now)-15, "the same piece at", now)
	}
}

// P19.3: what is too old needs no room, and goes also with ErrFrag, ErrRoom, and a message.
func TestExpireBesideErrors(t *testing.T) {
	begun := func() *pair {
		w := both(t, Limits{Peer: 2048, All: 3072, Age: 5})
		w.adds(api.OK, "p", 0, 0, 5, full("a"), 10)
		w.adds(api.OK, "q", 0, 0, 5, full("b"), 12)
		w.adds(api.OK, "q", 1, 0, 5, full("c"), 10)
		return w
	}
	w := begun()
	w.adds(api.ErrFrag, "q", 0, 0, 4, full("b"), 16)
	w.has(key{"q", 0})
	w = begun()
	w.adds(api.ErrRoom, "", 0, 0, 2, full("d"), 15)
	w.has(key{"p", 0}, key{"q", 0}, key{"q", 1})
	w.adds(api.OK, "", 0, 0, 2, full("d"), 16)
	w.has(key{"q", 0}, key{"", 0})
	w = begun()
	w.tells([]byte{1}, "q", 3, 0, 1, []byte{1}, 16)
	w.has(key{"q", 0})
	w = begun()
	w.adds(api.OK, "q", 0, 1, 5, full("e"), 16)
	w.adds(api.ErrRoom, "q", 0, 2, 5, full("f"), 16)
	w.has(key{"q", 0})
	w.adds(api.OK, "q", 0, 0, 5, full("b"), 17)
	w.has(key{"q", 0})
	w = both(t, Limits{Peer: 100, All: 100, Age: 5})
	w.adds(api.OK, "p", 0, 1, 2, mess("a", 100), 10)
	w.adds(api.ErrRoom, "p", 0, 0, 2, full("b"), 15)
	w.has(key{"p", 0})
	w.adds(api.ErrRoom, "p", 0, 0, 2, full("b"), 16)
	w.has()
}

// P19.2: Drop lets go what is of that peer, and nothing else.
func TestDrop(t *testing.T) {
	var all []key
	for _, peer := range names() {
		all = append(all, key{peer, 0}, key{peer, 6}, key{peer, 7})
	}
	begun := func() *pair {
		w := both(t, roomy())
		for i, k := range all {
			w.adds(api.OK, k.peer, k.msg, 1, 2, mess("body", 1+i), uint64(i))
		}
		w.has(all...)
		return w
	}
	for i, peer := range names() {
		w := begun()
		w.drop("nobody")
		w.has(all...)
		w.drop(peer)
		w.has(append(append([]key{}, all[:3*i]...), all[3*i+3:]...)...)
		w.drop(peer)
		w.adds(api.OK, peer, 0, 0, 3, full("a"), 0)
		w.counts(len(all)-2, "begun anew")
	}
	w := begun()
	for i, peer := range names() {
		w.drop(peer)
		w.has(all[3*i+3:]...)
	}
}

// P19.2: of a buffer in which nothing is nothing goes.
func TestExpireAndDropOfNothing(t *testing.T) {
	w := both(t, roomy())
	w.expire(0)
	w.expire(math.MaxUint64)
	w.drop("p")
	w.has()
	w.tells([]byte{9}, "p", 0, 0, 1, []byte{9}, 0)
	w.expire(math.MaxUint64)
	w.drop("p")
	w.has()
}
