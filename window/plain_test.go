package window

import (
	"math"
	"math/big"
	"slices"
	"testing"

	"redan/api"
)

const greatest = math.MaxUint64

// plain is a window by the chapter's words, without the program's: the numbers that came, each one in full.
type plain struct {
	came map[uint64]bool
	most uint64
}

// check says P20.1's words of Check. The sum is as great as it gets.
func (p *plain) check(n uint64) api.Errno {
	sum := new(big.Int).SetUint64(n)
	sum.Add(sum, big.NewInt(128))
	old := len(p.came) > 0 && new(big.Int).SetUint64(p.most).Cmp(sum) >= 0
	if p.came[n] || old {
		return api.ErrReplay
	}
	return api.OK
}

// mark says P20.1's words of Mark.
func (p *plain) mark(n uint64) api.Errno {
	e := p.check(n)
	if e == api.OK {
		p.came[n] = true
		if n > p.most {
			p.most = n
		}
	}
	return e
}

// pair is a window and the plain one to which it is held.
type pair struct {
	t *testing.T
	w *Window
	p *plain
}

// both are two windows to which these numbers came.
func both(t *testing.T, came ...uint64) *pair {
	t.Helper()
	x := &pair{t: t, w: new(Window), p: &plain{came: map[uint64]bool{}}}
	for _, n := range came {
		x.marks(api.OK, n)
	}
	return x
}

// top holds Top to the greatest number that came.
func (x *pair) top() {
	x.t.Helper()
	n, there := x.w.Top()
	if n != x.p.most || there != (len(x.p.came) > 0) {
		x.t.Fatalf("Top: %d, %v, not %d of %d numbers", n, there, x.p.most, len(x.p.came))
	}
}

// check holds one Check to the plain one's, and looks that it changes nothing.
func (x *pair) check(n uint64) {
	x.t.Helper()
	was := *x.w
	if got, want := x.w.Check(n), x.p.check(n); got != want {
		x.t.Fatalf("Check %d, with %d the greatest: %d, not %d", n, x.p.most, int(got), int(want))
	}
	if *x.w != was {
		x.t.Fatalf("Check %d changed the window", n)
	}
}

// mark holds one Mark to the plain one's, and looks that it changes nothing where it is refused.
func (x *pair) mark(n uint64) api.Errno {
	x.t.Helper()
	was := *x.w
	got, want := x.w.Mark(n), x.p.mark(n)
	if got != want {
		x.t.Fatalf("Mark %d, with %d the greatest: %d, not %d", n, x.p.most, int(got), int(want))
	}
	if got != api.OK && *x.w != was {
		x.t.Fatalf("Mark %d, which was refused, changed the window", n)
	}
	x.top()
	return got
}

// marks marks a number, and looks for this answer.
func (x *pair) marks(want api.Errno, n uint64) {
	x.t.Helper()
	if e := x.mark(n); e != want {
		x.t.Fatalf("Mark %d: %d, not %d", n, int(e), int(want))
	}
}

// near are all numbers about one, as far as a window goes and further; those about 0 turn over.
func near(n uint64) []uint64 {
	var out []uint64
	for i := range uint64(400) {
		out = append(out, n+3-i)
	}
	return out
}

// edges are numbers at which something might turn over.
func edges() []uint64 {
	out := []uint64{0, 1, 2, 5, 200}
	for _, at := range []uint64{64, 128, 192, 256, 1 << 16, 1 << 31, 1 << 32, 1 << 53, 1 << 63, 0} {
		for _, by := range []uint64{0, 1, 2, 63, 64, 65, 126, 127, 128, 129} {
			out = append(out, at-by, at+by)
		}
	}
	slices.Sort(out)
	return slices.Compact(out)
}

// same holds the answers of all numbers near the greatest one, and of all edges, to the plain ones.
func (x *pair) same() {
	x.t.Helper()
	x.top()
	for _, n := range near(x.p.most) {
		x.check(n)
	}
	for _, n := range edges() {
		x.check(n)
	}
	x.top()
}
