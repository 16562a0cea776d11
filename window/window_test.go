package window

import (
	"testing"

	"redan/api"
)

// checks looks for this answer of each of the numbers.
func checks(t *testing.T, w *Window, want api.Errno, numbers ...uint64) {
	t.Helper()
	for _, n := range numbers {
		if e := w.Check(n); e != want {
			t.Errorf("Check %d: %d, not %d", n, int(e), int(want))
		}
	}
}

// tops looks for this answer of Top.
func tops(t *testing.T, w *Window, want uint64, wantThere bool) {
	t.Helper()
	if n, there := w.Top(); n != want || there != wantThere {
		t.Errorf("Top: %d, %v, not %d, %v", n, there, want, wantThere)
	}
}

// P20.1: the chapter's examples.
func TestExamples(t *testing.T) {
	var w Window
	if e := w.Mark(5); e != api.OK {
		t.Errorf("Mark 5: %d", int(e))
	}
	checks(t, &w, api.ErrReplay, 5)
	checks(t, &w, api.OK, 4, 6)
	w = Window{}
	if e := w.Mark(200); e != api.OK {
		t.Errorf("Mark 200: %d", int(e))
	}
	checks(t, &w, api.ErrReplay, 72)
	checks(t, &w, api.OK, 73)
	if Size != 128 {
		t.Errorf("Size is %d", Size)
	}
}

// P20.1: to the zero Window none came: any number may come first, and only Mark lets it.
func TestZeroWindow(t *testing.T) {
	var w Window
	tops(t, &w, 0, false)
	checks(t, &w, api.OK, edges()...)
	tops(t, &w, 0, false)
	both(t).same()
	for _, n := range edges() {
		x := both(t, n)
		x.marks(api.ErrReplay, n)
		x.same()
	}
}

// P20.1: of nil ErrArg; 0, false.
func TestNil(t *testing.T) {
	var w *Window
	for _, n := range edges() {
		checks(t, w, api.ErrArg, n)
		if e := w.Mark(n); e != api.ErrArg {
			t.Errorf("Mark %d: %d", n, int(e))
		}
		tops(t, w, 0, false)
	}
}

// P20.1: 0, 1 and the greatest number, with nothing but what their answers must be.
func TestEndsByHand(t *testing.T) {
	var w Window
	for _, step := range []struct {
		n    uint64
		want api.Errno
		top  uint64
	}{
		{0, api.OK, 0}, {0, api.ErrReplay, 0}, {1, api.OK, 1}, {0, api.ErrReplay, 1}, {1, api.ErrReplay, 1},
		{3, api.OK, 3}, {2, api.OK, 3}, {2, api.ErrReplay, 3}, {3, api.ErrReplay, 3},
		{greatest, api.OK, greatest}, {greatest, api.ErrReplay, greatest},
		{0, api.ErrReplay, greatest}, {1, api.ErrReplay, greatest}, {4, api.ErrReplay, greatest}, {127, api.ErrReplay, greatest}, {128, api.ErrReplay, greatest},
		{greatest - 1, api.OK, greatest}, {greatest - 1, api.ErrReplay, greatest},
		{greatest - 127, api.OK, greatest}, {greatest - 127, api.ErrReplay, greatest}, {greatest - 128, api.ErrReplay, greatest}, {greatest - 129, api.ErrReplay, greatest},
	} {
		checks(t, &w, step.want, step.n)
		if e := w.Mark(step.n); e != step.want {
			t.Errorf("Mark %d: %d, not %d", step.n, int(e), int(step.want))
		}
		checks(t, &w, api.ErrReplay, step.n)
		tops(t, &w, step.top, true)
	}
}

// P20.1: Top of none, of 0 alone, and behind numbers that are greater, less, refused, or only asked for.
func TestTop(t *testing.T) {
	var w Window
	tops(t, &w, 0, false)
	checks(t, &w, api.OK, 0, 7)
	tops(t, &w, 0, false)
	for _, step := range [][2]uint64{{0, 0}, {0, 0}, {9, 9}, {4, 9}, {9, 9}, {10, 10}, {138, 138}, {10, 138}, {9, 138}, {11, 138}, {1 << 40, 1 << 40}, {138, 1 << 40}, {greatest, greatest}, {0, greatest}, {greatest - 5, greatest}} {
		w.Mark(step[0])
		tops(t, &w, step[1], true)
		w.Check(step[1] + 1)
		tops(t, &w, step[1], true)
	}
}

// P20.1: how far below the only number that came another one may be, and that all above it may come.
func TestDistances(t *testing.T) {
	for _, at := range edges() {
		x := both(t, at)
		for _, back := range []uint64{1, 2, 62, 63, 64, 65, 126, 127} {
			if back <= at {
				checks(t, x.w, api.OK, at-back)
			}
		}
		for _, back := range []uint64{0, 128, 129, 130, 191, 192, 193, 255, 256, 257, 1 << 16, 1 << 32, 1<<32 + 1, 1 << 63, 1<<63 + 1} {
			if back <= at {
				checks(t, x.w, api.ErrReplay, at-back)
			}
		}
		for _, on := range []uint64{1, 2, 63, 64, 65, 127, 128, 129, 1 << 32, 1 << 63} {
			if at <= greatest-on {
				checks(t, x.w, api.OK, at+on)
			}
		}
		tops(t, x.w, at, true)
		x.same()
	}
}

// P20.1: n + 128 doesn't turn over: great numbers may come behind small ones.
func TestSumsNearTheGreatest(t *testing.T) {
	for _, at := range []uint64{0, 1, 5, 126, 127, 128, 129, 200, 1 << 32, 1 << 63, greatest - 300} {
		for back := range uint64(260) {
			x := both(t, at)
			checks(t, x.w, api.OK, greatest-back)
			x.marks(api.OK, greatest-back)
			checks(t, x.w, api.ErrReplay, greatest-back, at, 0, 127, 128)
		}
		both(t, at).same()
	}
	for back := range uint64(260) {
		x := both(t, greatest-back)
		x.same()
		for on := range back {
			x.marks(api.OK, greatest-back+on+1)
		}
		x.same()
	}
}

// P20.1: a number that is refused, because it came or is too old, changes nothing.
func TestRefusedChangesNothing(t *testing.T) {
	for _, at := range []uint64{0, 300, 1 << 40, greatest} {
		x := both(t, at)
		for _, back := range []uint64{3, 63, 64, 100, 127} {
			if back <= at {
				x.marks(api.OK, at-back)
			}
		}
		was := *x.w
		for _, back := range []uint64{0, 3, 63, 64, 100, 127, 128, 129, 192, 256, 300} {
			if back <= at {
				x.marks(api.ErrReplay, at-back)
			}
		}
		if *x.w != was {
			t.Errorf("at %d: refused, but the window isn't as it was", at)
		}
		x.same()
	}
}

// Rules 3 and 4: windows have nothing in common, also one that was copied with that of which it is a copy.
func TestWindowsApart(t *testing.T) {
	var one, other Window
	one.Mark(100)
	tops(t, &other, 0, false)
	checks(t, &other, api.OK, 100)
	other = one
	other.Mark(99)
	other.Mark(180)
	tops(t, &one, 100, true)
	checks(t, &one, api.OK, 99, 52, 180)
	checks(t, &one, api.ErrReplay, 100)
	checks(t, &other, api.ErrReplay, 52, 99, 100, 180)
}
