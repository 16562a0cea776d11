package window

import (
	"testing"

	"redan/api"
)

// steps are how far ahead the next number may be: at the edges of a word, of two, and far off, also such whose lowest
// bits alone are small.
func steps() []uint64 {
	out := []uint64{1, 2, 3, 62, 63, 64, 65, 66, 126, 127, 128, 129, 130, 191, 192, 193, 255, 256, 257}
	for _, far := range []uint64{1 << 16, 1 << 31, 1 << 32, 1 << 62, 1 << 63} {
		out = append(out, far-1, far, far+1, far+63, far+64, far+127)
	}
	return out
}

// P20.1: a step ahead leaves those behind it that came as they were, and lets those that didn't come yet, down to 127
// below: of all that might have come all came.
func TestStepFromFull(t *testing.T) {
	for _, step := range steps() {
		x := both(t)
		for n := range uint64(200) {
			x.marks(api.OK, 100+n)
		}
		top := 299 + step
		x.marks(api.OK, top)
		for back := range uint64(300) {
			n := top - back
			came := back == 0 || n <= 299
			want := api.OK
			if came || back >= 128 {
				want = api.ErrReplay
			}
			checks(t, x.w, want, n)
		}
		x.same()
	}
}

// P20.1: the same where none came but the greatest one: of those behind none came by the step.
func TestStepFromOne(t *testing.T) {
	for _, step := range steps() {
		x := both(t, 1000, 1000+step)
		top := 1000 + step
		for back := range uint64(128) {
			want := api.OK
			if back == 0 || back == step {
				want = api.ErrReplay
			}
			checks(t, x.w, want, top-back)
		}
		checks(t, x.w, api.ErrReplay, top-128, top-129, 1000)
		x.same()
	}
}

// P20.1: each number alone, as far behind as one may be, after each step: it came, and no other one behind it did.
func TestStepOverEach(t *testing.T) {
	for behind := range uint64(128) {
		for step := range uint64(131) {
			var w Window
			w.Mark(1000)
			w.Mark(1000 - behind)
			w.Mark(1000 + step)
			top := 1000 + step
			for back := range uint64(270) {
				came := back == 0 || back == step || back == step+behind
				want := api.OK
				if came || back >= 128 {
					want = api.ErrReplay
				}
				if e := w.Check(top - back); e != want {
					t.Fatalf("%d behind, a step by %d: Check %d below: %d, not %d", behind, step, back, int(e), int(want))
				}
			}
		}
	}
}

// P20.1: which of those behind may come after a step do come, each of them once.
func TestMarkAfterStep(t *testing.T) {
	for _, step := range steps() {
		x := both(t, 500, 437, 436, 435, 400, 373, 500+step)
		top := 500 + step
		for back := range uint64(260) {
			x.mark(top - back)
			x.marks(api.ErrReplay, top-back)
		}
		x.same()
		x.marks(api.OK, top+1)
		x.marks(api.ErrReplay, top-126)
		x.same()
	}
}

// P20.1: many steps are as far as they come to in all.
func TestManySteps(t *testing.T) {
	for _, step := range []uint64{1, 2, 3, 7, 31, 32, 33, 63, 64, 65, 126, 127, 128, 129} {
		for _, from := range []uint64{0, 1, 1<<32 - 200, 1<<63 - 200, greatest - 10*step} {
			x := both(t)
			for i := range uint64(11) {
				x.marks(api.OK, from+i*step)
				x.same()
			}
		}
	}
}

// P20.1: numbers one behind the other, each of them again at once, and much later.
func TestInOrder(t *testing.T) {
	for _, from := range []uint64{0, 1, 1<<32 - 300, 1<<63 - 300, greatest - 999} {
		x := both(t)
		for i := range uint64(1000) {
			n := from + i
			x.marks(api.OK, n)
			x.marks(api.ErrReplay, n)
			for _, back := range []uint64{1, 63, 64, 127, 128, 129, 500} {
				if back <= i {
					x.marks(api.ErrReplay, n-back)
				}
			}
		}
		x.same()
	}
}

// P20.1: numbers from the greatest one downwards may come down to 127 below it.
func TestDownwards(t *testing.T) {
	for _, at := range []uint64{0, 1, 63, 64, 126, 127, 128, 129, 500, 1 << 40, greatest} {
		x := both(t)
		for back := range min(at, 299) + 1 {
			want := api.OK
			if back >= 128 {
				want = api.ErrReplay
			}
			x.marks(want, at-back)
		}
		x.same()
	}
}
