package cookie

import (
	"math/rand"
	"testing"
)

// P21.1: the chapter's example, and others whose answers are known by hand.
func TestEpochByHand(t *testing.T) {
	for _, c := range []struct{ now, period, want uint64 }{
		{25, 10, 2},
		{0, 0, 0}, {0, 1, 0}, {0, 2, 0}, {0, 10, 0}, {0, greatest, 0},
		{1, 0, 1}, {1, 1, 1}, {1, 2, 0}, {1, greatest, 0},
		{2, 2, 1}, {3, 2, 1}, {4, 2, 2},
		{9, 10, 0}, {10, 10, 1}, {19, 10, 1}, {20, 10, 2}, {29, 10, 2}, {30, 10, 3},
		{7, 0, 7}, {7, 1, 7}, {1<<32 + 5, 0, 1<<32 + 5},
		{1<<32 - 1, 1 << 32, 0}, {1 << 32, 1 << 32, 1}, {1<<33 - 1, 1 << 32, 1}, {1 << 33, 1 << 32, 2},
		{1<<53 + 1, 1, 1<<53 + 1}, {1 << 63, 2, 1 << 62}, {1<<63 - 1, 1 << 63, 0}, {1 << 63, 1 << 63, 1},
		{greatest, 0, greatest}, {greatest, 1, greatest}, {greatest, 2, 1<<63 - 1}, {greatest, 10, 1844674407370955161},
		{greatest, 1 << 63, 1}, {greatest, greatest, 1}, {greatest - 1, greatest, 0}, {greatest - 1, greatest - 1, 1}, {greatest, greatest - 1, 1},
	} {
		if got := Epoch(c.now, c.period); got != c.want {
			t.Errorf("Epoch of %d, period %d: %d, not %d", c.now, c.period, got, c.want)
		}
	}
}

// P21.1: all small times and periods, all edges, and drawn ones, by long numbers.
func TestEpoch(t *testing.T) {
	hold := func(now, period uint64) {
		t.Helper()
		if got, want := Epoch(now, period), plainEpoch(now, period); got != want {
			t.Fatalf("Epoch of %d, period %d: %d, not %d", now, period, got, want)
		}
	}
	for now := range uint64(200) {
		for period := range uint64(210) {
			hold(now, period)
		}
	}
	for _, now := range edges() {
		for _, period := range edges() {
			hold(now, period)
		}
	}
	r := rand.New(rand.NewSource(1))
	for range 5000 {
		hold(r.Uint64()>>r.Intn(64), r.Uint64()>>r.Intn(64))
	}
}

// P21.1: a period of 0 counts as 1.
func TestEpochOfPeriodNone(t *testing.T) {
	for _, now := range edges() {
		if got := Epoch(now, 0); got != now || got != Epoch(now, 1) {
			t.Errorf("Epoch of %d, period 0: %d", now, got)
		}
	}
}

// P21.1: the number is the same from a period's first moment to its last one, and the next one's one greater.
func TestEpochWithinPeriod(t *testing.T) {
	for _, period := range []uint64{1, 2, 3, 10, 1000, 1<<32 + 1} {
		for _, number := range []uint64{0, 1, 2, 77, 1 << 30, greatest/period - 1} {
			first := number * period
			for _, now := range []uint64{first, first + period/2, first + period - 1} {
				if got := Epoch(now, period); got != number {
					t.Errorf("Epoch of %d, period %d: %d, not %d", now, period, got, number)
				}
			}
			if got := Epoch(first+period, period); got != number+1 {
				t.Errorf("Epoch of %d, period %d: %d, not %d", first+period, period, got, number+1)
			}
		}
	}
}
