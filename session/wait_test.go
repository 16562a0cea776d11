package session

import (
	"math"
	"testing"
)

// waits holds Wait to the chapter's words.
func waits(t *testing.T, r Rules, n int) uint64 {
	t.Helper()
	got := Wait(r, n)
	if want := plainWait(r, n); got != want {
		t.Fatalf("Wait of %d, %d at most, after %d: %d, not %d", r.Retry, r.RetryMax, n, got, want)
	}
	return got
}

// The chapter's example: Wait of Retry 5, RetryMax 30.
func TestExample(t *testing.T) {
	for n, want := range []uint64{5, 10, 20, 30} {
		if got := waits(t, Rules{Retry: 5, RetryMax: 30}, n); got != want {
			t.Errorf("after %d: %d, not %d", n, got, want)
		}
	}
}

// P22.1: waits that are known by hand.
func TestWaitByHand(t *testing.T) {
	const half = 1 << 63
	for _, c := range []struct {
		retry, most uint64
		n           int
		want        uint64
	}{
		{0, 0, 0, 1}, {0, 0, 1, 1}, {0, 0, 64, 1},
		{0, 1, 0, 1}, {0, 1, 5, 1},
		{0, 8, 0, 1}, {0, 8, 1, 2}, {0, 8, 2, 4}, {0, 8, 3, 8}, {0, 8, 4, 8},
		{1, 0, 0, 1}, {1, 0, 3, 1},
		{1, 8, 0, 1}, {1, 8, 1, 2}, {1, 8, 2, 4}, {1, 8, 3, 8}, {1, 8, 4, 8},
		{1, 9, 3, 8}, {1, 9, 4, 9}, {1, 7, 2, 4}, {1, 7, 3, 7},
		{5, 30, 4, 30}, {5, 30, -1, 5}, {5, 30, math.MinInt, 5}, {5, 30, math.MaxInt, 30},
		{5, 0, 0, 5}, {5, 4, 0, 5}, {5, 4, 1, 5}, {5, 5, 0, 5}, {5, 5, 1, 5}, {5, 6, 0, 5}, {5, 6, 1, 6},
		{5, 9, 1, 9}, {5, 10, 1, 10}, {5, 11, 1, 10},
		{1, greatest, 63, half}, {1, greatest, 64, greatest}, {1, greatest, 65, greatest},
		{1, half, 62, half / 2}, {1, half, 63, half}, {1, half, 64, half},
		{1, half - 1, 62, half / 2}, {1, half - 1, 63, half - 1},
		{1, half + 1, 63, half}, {1, half + 1, 64, half + 1},
		{3, greatest, 62, 3 << 62}, {3, greatest, 63, greatest},
		{5, greatest, 61, 5 << 61}, {5, greatest, 62, greatest}, {5, greatest, 64, greatest},
		{half, greatest, 0, half}, {half, greatest, 1, greatest}, {half, 5, 0, half}, {half, half, 1, half},
		{half - 1, greatest, 1, greatest - 1}, {half - 1, greatest, 2, greatest},
		{greatest, 0, 0, greatest}, {greatest, greatest, 0, greatest}, {greatest, greatest, 1, greatest}, {greatest, 7, 64, greatest},
	} {
		if got := waits(t, Rules{Retry: c.retry, RetryMax: c.most}, c.n); got != c.want {
			t.Errorf("Wait of %d, %d at most, after %d: %d, not %d", c.retry, c.most, c.n, got, c.want)
		}
	}
}

// tries are all numbers of times at which something might turn over.
func tries() []int {
	out := []int{math.MinInt, math.MinInt + 1, math.MinInt32, -64, -2, -1, 100, 127, 128, 129, 255, 256, 257, 1 << 16, 1 << 30, math.MaxInt32, math.MaxInt - 1, math.MaxInt}
	for n := range 70 {
		out = append(out, n)
	}
	return out
}

// P22.1: at all edges of both bounds, after any number of times.
func TestWaitAtEdges(t *testing.T) {
	for _, retry := range edges() {
		for _, most := range append(edges(), retry-1, retry, retry+1, 2*retry-1, 2*retry, 2*retry+1) {
			for _, n := range tries() {
				waits(t, Rules{Retry: retry, RetryMax: most}, n)
			}
		}
	}
}

// P22.1: nothing else of the rules counts.
func TestWaitOfNothingElse(t *testing.T) {
	for _, x := range edges() {
		r := Rules{Retry: 5, RetryMax: 30, Tries: int(x % 1000), Rekey: x, Expire: x, RekeyCount: x, ExpireCount: x}
		if waits(t, r, 0) != 5 || waits(t, r, 2) != 20 || waits(t, r, 3) != 30 {
			t.Errorf("%+v", r)
		}
	}
}

// P22.1: waits never become less, each one is at most twice the one ahead, and in the end all are the greatest one.
func TestWaitsGrow(t *testing.T) {
	for _, retry := range edges() {
		for _, most := range edges() {
			r := Rules{Retry: retry, RetryMax: most}
			last := waits(t, r, 0)
			if last != max(retry, 1) {
				t.Fatalf("%+v: the first wait is %d", r, last)
			}
			for n := 1; n < 70; n++ {
				next := waits(t, r, n)
				if next < last || next-last > last {
					t.Fatalf("%+v: %d behind %d", r, next, last)
				}
				last = next
			}
			if last != max(most, retry, 1) {
				t.Fatalf("%+v: the last wait is %d", r, last)
			}
		}
	}
}
