package window

import (
	"math"
	"math/rand"
	"slices"
	"testing"

	"redan/api"
)

// orders hands each on all orders of the numbers.
func orders(numbers []uint64, each func(order []uint64)) {
	var on func(order []uint64)
	on = func(order []uint64) {
		if len(order) == len(numbers) {
			each(order)
			return
		}
		for _, n := range numbers {
			if !slices.Contains(order, n) {
				on(append(slices.Clone(order), n))
			}
		}
	}
	on(nil)
}

// P20.2: of a few numbers that are near to one another, at the edges too, all orders come to the same.
func TestAllOrders(t *testing.T) {
	for _, low := range []uint64{0, 1, 60, 1<<32 - 64, 1<<63 - 1, greatest - 127} {
		for _, far := range [][]uint64{{0, 127}, {0, 1, 2}, {0, 63, 64, 65}, {0, 1, 126, 127}, {0, 5, 63, 64, 127}, {3, 30, 62, 66, 90, 127}} {
			var numbers []uint64
			for _, by := range far {
				numbers = append(numbers, low+by)
			}
			want := both(t, numbers...)
			want.same()
			orders(numbers, func(order []uint64) {
				got := both(t, order...)
				got.same()
				for _, n := range near(slices.Max(numbers)) {
					if got.w.Check(n) != want.w.Check(n) {
						t.Fatalf("%v: Check %d isn't as in order", order, n)
					}
				}
			})
		}
	}
}

// P20.2: one that is 128 above another one must come behind it: there the order matters.
func TestOrderMattersBeyond(t *testing.T) {
	for _, low := range []uint64{0, 7, 1 << 40, greatest - 128} {
		both(t, low, low+128).same()
		x := both(t, low+128)
		x.marks(api.ErrReplay, low)
		x.marks(api.OK, low+1)
		x.same()
	}
}

// P20.2: drawn numbers that are near to one another, turned round and doubled, behind others that came.
func TestDrawnOrders(t *testing.T) {
	r := rand.New(rand.NewSource(1))
	for range 500 {
		low := r.Uint64() >> r.Intn(64)
		low = min(low, greatest-127)
		var numbers, earlier []uint64
		for by := range uint64(128) {
			switch r.Intn(4) {
			case 0:
				earlier = append(earlier, low+by)
			case 1, 2:
				numbers = append(numbers, low+by)
			}
		}
		want := both(t, append(slices.Clone(earlier), numbers...)...)
		x := both(t, earlier...)
		order := append(slices.Clone(numbers), numbers...)
		r.Shuffle(len(order), func(i, j int) { order[i], order[j] = order[j], order[i] })
		came := map[uint64]bool{}
		for _, n := range order {
			e := api.OK
			if came[n] {
				e = api.ErrReplay
			}
			came[n] = true
			x.marks(e, n)
		}
		x.same()
		for _, n := range near(low + 127) {
			if x.w.Check(n) != want.w.Check(n) {
				t.Fatalf("%v: Check %d isn't as in order", order, n)
			}
		}
	}
}

// P20.2: however they come, each number is marked once at most.
func TestOnceAtMost(t *testing.T) {
	r := rand.New(rand.NewSource(2))
	for round := range 200 {
		var w Window
		marked := map[uint64]int{}
		from := []uint64{0, 1<<32 - 150, 1<<63 - 150, math.MaxUint64 - 400}[round%4]
		for i := range 600 {
			n := from + uint64(i/3+r.Intn(1+r.Intn(200)))
			if w.Mark(n) == api.OK {
				marked[n]++
			}
		}
		for n, times := range marked {
			if times != 1 || w.Mark(n) == api.OK {
				t.Fatalf("%d was marked %d times, or can be again", n, times)
			}
		}
	}
}

// drawn is a number that is near the greatest one that came, mostly, and seldom an edge, as those are far ahead.
func drawn(top uint64, next func(n int) int) uint64 {
	kind := next(200)
	switch {
	case kind == 0:
		return edges()[next(len(edges()))]
	case kind < 10:
		return top + uint64(next(300))
	case kind < 30:
		return top + 1
	case kind < 60:
		return top + uint64(next(5))
	case kind < 80:
		return top - min(top, 120+uint64(next(20)))
	default:
		return top - min(top, uint64(next(140)))
	}
}

// draw calls once, as a source of small numbers tells.
func (x *pair) draw(next func(n int) int) {
	x.t.Helper()
	n := drawn(x.p.most, next)
	if next(4) == 0 {
		x.check(n)
		return
	}
	x.mark(n)
}

// P20.1, P20.2: drawn calls are as the numbers that came have them.
func TestDrawn(t *testing.T) {
	r := rand.New(rand.NewSource(3))
	for range 300 {
		x := both(t)
		if r.Intn(3) > 0 {
			x.marks(api.OK, r.Uint64()>>r.Intn(64))
		}
		for i := range 400 {
			x.draw(r.Intn)
			if i%40 == 0 {
				x.same()
			}
		}
		x.same()
	}
}

// FuzzDrawn holds calls that bytes tell against the numbers that came.
func FuzzDrawn(f *testing.F) {
	for _, from := range []uint64{0, 1, 127, 128, 200, 1 << 32, 1 << 63, greatest - 128, greatest - 1, greatest} {
		f.Add(from, []byte{0, 1, 2, 3, 50, 1, 200, 1, 5, 7, 2, 9, 100, 1, 8, 127, 3, 2, 2, 4, 4, 4, 5, 8, 1, 1, 129, 1})
	}
	f.Fuzz(func(t *testing.T, from uint64, b []byte) {
		if len(b) > 2000 {
			return
		}
		next := func(n int) int {
			if len(b) == 0 {
				return 0
			}
			x := int(b[0])
			b = b[1:]
			return x % n
		}
		x := both(t, from)
		for len(b) > 0 {
			x.draw(next)
		}
		x.same()
	})
}

// FuzzNumbers holds any three numbers, and those near them, against what came.
func FuzzNumbers(f *testing.F) {
	f.Add(uint64(0), uint64(0), uint64(0))
	f.Add(uint64(0), uint64(127), uint64(128))
	f.Add(uint64(greatest), uint64(greatest-127), uint64(greatest-128))
	f.Add(uint64(5), uint64(greatest-3), uint64(200))
	f.Add(uint64(1<<63), uint64(1<<63+1<<32), uint64(1<<63+1<<32-100))
	f.Fuzz(func(t *testing.T, a, b, c uint64) {
		x := both(t)
		for _, n := range []uint64{a, b, c, a, c, b} {
			x.mark(n)
		}
		x.same()
	})
}
