package frag

import (
	"math"
	"testing"

	"redan/api"
)

// wild are numbers that may hardly be: far off, below 0, and such whose lowest bytes may be.
func wild() []int {
	out := []int{math.MinInt, math.MinInt + 1, math.MaxInt - 1, math.MaxInt}
	for i := range 3 {
		for _, x := range []int{8, 16, 31, 32, 33, 62} {
			out = append(out, i+1<<x, i-1<<x)
		}
	}
	return out
}

// P19.3: ErrArg, unless all numbers are such as a piece has; all edges with all others.
func TestAddArguments(t *testing.T) {
	msgs := append(wild(), -2, -1, 0, 1, 6, 7, 8, 9)
	counts := append(wild(), -1, 0, 1, 2, 3, 63, 64, 65, 66)
	sizes := []int{0, 1, 2, 1022, 1023, 1024, 1025, 1026, 2048}
	body := mess("body", 2048)
	for _, msg := range msgs {
		for _, parts := range counts {
			for _, part := range append(wild(), -1, 0, 1, parts-2, parts-1, parts, parts+1) {
				for _, size := range sizes {
					b := New(roomy())
					message, e := b.Add("p", msg, part, parts, body[:size], 5)
					may := plainMayBe(msg, part, parts, size)
					if may != (e == api.OK) || !may && e != api.ErrArg {
						t.Fatalf("msg %d, part %d of %d, %d bytes: error %d", msg, part, parts, size, int(e))
					}
					if told := may && parts == 1; told != (len(message) > 0) {
						t.Fatalf("msg %d, part %d of %d, %d bytes: a message of %d", msg, part, parts, size, len(message))
					}
					if kept := may && parts > 1; kept != (b.Count() > 0) || kept != (b.Total() == size && size > 0) {
						t.Fatalf("msg %d, part %d of %d, %d bytes: Count %d, Total %d", msg, part, parts, size, b.Count(), b.Total())
					}
				}
			}
		}
	}
}

// P19.3: the same edges, said by hand.
func TestAddArgumentsByHand(t *testing.T) {
	for _, c := range []struct {
		msg, part, parts, size int
		want                   api.Errno
	}{
		{-1, 0, 2, 1024, api.ErrArg}, {0, 0, 2, 1024, api.OK}, {7, 0, 2, 1024, api.OK}, {8, 0, 2, 1024, api.ErrArg},
		{0, 0, 0, 1, api.ErrArg}, {0, 0, 0, 1024, api.ErrArg}, {0, -1, 0, 1, api.ErrArg}, {0, 0, 1, 1, api.OK},
		{0, 0, 64, 1024, api.OK}, {0, 63, 64, 1, api.OK}, {0, 63, 65, 1024, api.ErrArg}, {0, 64, 65, 1, api.ErrArg}, {0, 0, 65, 1024, api.ErrArg},
		{0, -1, 2, 1024, api.ErrArg}, {0, 0, 2, 1024, api.OK}, {0, 1, 2, 1024, api.OK}, {0, 2, 2, 1024, api.ErrArg}, {0, 2, 2, 1, api.ErrArg},
		{0, 1, 1, 1, api.ErrArg}, {0, -1, 1, 1, api.ErrArg},
		{0, 0, 1, 0, api.ErrArg}, {0, 0, 1, 1023, api.OK}, {0, 0, 1, 1024, api.OK}, {0, 0, 1, 1025, api.ErrArg},
		{0, 0, 2, 0, api.ErrArg}, {0, 0, 2, 1, api.ErrArg}, {0, 0, 2, 1023, api.ErrArg}, {0, 0, 2, 1025, api.ErrArg},
		{0, 1, 2, 0, api.ErrArg}, {0, 1, 2, 1, api.OK}, {0, 1, 2, 1023, api.OK}, {0, 1, 2, 1025, api.ErrArg},
		{0, 1, 3, 1023, api.ErrArg}, {0, 1, 3, 1024, api.OK}, {0, 2, 3, 1023, api.OK},
	} {
		w := both(t, roomy())
		got, e := w.add("p", c.msg, c.part, c.parts, mess("body", c.size), 0)
		if e != c.want || len(got) > 0 && c.parts != 1 {
			t.Errorf("%+v: %d bytes, error %d", c, len(got), int(e))
		}
	}
}

// P19.3: ErrArg comes ahead of all else, of Expire too: what is too old stays.
func TestArgumentsAheadOfAll(t *testing.T) {
	w := both(t, Limits{Peer: 1100, All: 1100, Age: 5})
	w.adds(api.OK, "p", 2, 1, 2, mess("a", 1), 10)
	for _, size := range []int{0, 1025} {
		w.adds(api.ErrArg, "p", 2, 1, 2, mess("b", size), 100)
	}
	w.adds(api.ErrArg, "p", 2, 0, 2, mess("b", 1023), 100)
	w.adds(api.ErrArg, "p", 2, 2, 2, mess("b", 1), 100)
	w.adds(api.ErrArg, "p", 2, -1, 3, mess("b", 1024), 100)
	w.adds(api.ErrArg, "p", 8, 0, 2, full("b"), 100)
	w.adds(api.ErrArg, "q", -1, 0, 2, full("b"), math.MaxUint64)
	w.has(key{"p", 2})
	w.tells(append(full("c"), mess("a", 1)...), "p", 2, 0, 2, full("c"), 15)
}

// P19.2: of nil there is nothing, 0, ErrArg.
func TestNil(t *testing.T) {
	var b *Buffer
	b.Expire(0)
	b.Expire(math.MaxUint64)
	b.Drop("p")
	b.Drop("")
	if b.Held("p") != 0 || b.Held("") != 0 || b.Total() != 0 || b.Count() != 0 {
		t.Errorf("Held %d, Total %d, Count %d", b.Held("p"), b.Total(), b.Count())
	}
	for _, msg := range []int{-1, 0, 7, 8} {
		for _, parts := range []int{0, 1, 2, 64, 65} {
			for _, size := range []int{0, 1, 1024, 1025} {
				if got, e := b.Add("p", msg, 0, parts, mess("body", size), 3); e != api.ErrArg || len(got) != 0 {
					t.Errorf("msg %d, parts %d, %d bytes: %d bytes, error %d", msg, parts, size, len(got), int(e))
				}
			}
		}
	}
}

// Rule 1: nor does a Buffer panic that New didn't make.
func TestZeroBuffer(t *testing.T) {
	var b Buffer
	b.Expire(5)
	b.Drop("p")
	b.Add("p", 0, 0, 1, mess("body", 1), 5)
	b.Add("p", 0, 0, 2, full("body"), 6)
	b.Add("p", 9, 0, 2, full("body"), 6)
	if b.Held("p") < 0 || b.Total() < 0 || b.Count() < 0 {
		t.Error("less than nothing")
	}
}
