package session

import (
	"math"
	"testing"
)

// P22.2: due one wait behind the moment at which it was said, not ahead of that; then twice as long.
func TestTimerByHand(t *testing.T) {
	x := started(t, Rules{Retry: 5, RetryMax: 30, Tries: 4}, 100)
	for _, step := range []struct {
		from, wait uint64
	}{{100, 5}, {107, 10}, {117, 20}, {200, 30}, {230, 30}} {
		if step.from > 100 && !x.again(step.from) {
			t.Fatalf("at %d: not said again", step.from)
		}
		for now := range uint64(300) {
			if got := x.due(now); got != (now >= step.from+step.wait) {
				t.Fatalf("said at %d: due at %d: %v", step.from, now, got)
			}
		}
	}
	if x.again(260) {
		t.Error("said again five times")
	}
}

// P22.2: at all edges of the moment and of the wait; a moment that is still to come was just now.
func TestDueAtEdges(t *testing.T) {
	for _, said := range edges() {
		for _, retry := range edges() {
			x := started(t, Rules{Retry: retry, RetryMax: greatest, Tries: 3}, said)
			for {
				x.edges()
				for _, now := range edges() {
					x.due(now)
				}
				if !x.again(said + retry) {
					break
				}
			}
		}
	}
}

// P22.2: ahead of the moment since is 0, which no wait is, as each one is 1 at least.
func TestNotDueAheadOfIt(t *testing.T) {
	for _, retry := range []uint64{0, 1, 5, greatest} {
		x := started(t, Rules{Retry: retry, Tries: 1}, 1000)
		for _, now := range []uint64{0, 1, 500, 999, 1000} {
			if x.due(now) {
				t.Errorf("Retry %d: due at %d", retry, now)
			}
		}
		if got := x.due(1001); got != (retry <= 1) {
			t.Errorf("Retry %d: due at 1001: %v", retry, got)
		}
	}
}

// P22.2: near the greatest time nothing turns over.
func TestDueNearTheGreatestTime(t *testing.T) {
	x := started(t, Rules{Retry: 5, RetryMax: 30, Tries: 2}, greatest-5)
	if x.due(greatest-1) || !x.due(greatest) || x.due(0) || x.due(4) {
		t.Error("five moments ahead of the end")
	}
	if !x.again(greatest) || x.due(greatest) || x.due(0) || x.due(9) || x.due(10) {
		t.Error("said at the end, it is never due")
	}
	x = started(t, Rules{Retry: greatest, Tries: 1}, 0)
	if x.due(greatest-1) || !x.due(greatest) {
		t.Error("the greatest wait")
	}
	x = started(t, Rules{Retry: greatest, Tries: 1}, 1)
	if x.due(0) || x.due(greatest) {
		t.Error("the greatest wait, one later")
	}
}

// P22.2: the wait is that of how often it was said again, as long as it may be.
func TestTimerGrows(t *testing.T) {
	for _, r := range []Rules{{Retry: 1, RetryMax: greatest}, {Retry: 3, RetryMax: 1 << 40}, {Retry: 7}, {}, {RetryMax: 100}} {
		r.Tries = 80
		x := started(t, r, 50)
		now := uint64(50)
		for n := range r.Tries {
			x.edges()
			if wait := plainWait(r, n); wait <= greatest-now {
				if now+wait > 0 && x.due(now+wait-1) || !x.due(now+wait) {
					t.Fatalf("%+v, again %d times: not due %d behind %d", r, n, wait, now)
				}
			}
			now += 3
			if !x.again(now) {
				t.Fatalf("%+v: not said again the %dth time", r, n)
			}
		}
		x.edges()
		if x.again(now) {
			t.Fatalf("%+v: said again too often", r)
		}
	}
}

// P22.2: it is said again Tries times, and not once more; then nothing changes.
func TestTries(t *testing.T) {
	for _, tries := range []int{math.MinInt, -1000, -1, 0, 1, 2, 3, 10, 100} {
		x := started(t, Rules{Retry: 5, RetryMax: 30, Tries: tries}, 10)
		for n := range max(tries, 0) {
			if !x.again(uint64(20 + n)) {
				t.Fatalf("Tries %d: not said again behind %d times", tries, n)
			}
		}
		for _, now := range append(edges(), 9, 10, 11, 15, 50) {
			if x.again(now) {
				t.Fatalf("Tries %d: said again once more", tries)
			}
			x.edges()
		}
	}
}

// P22.2: as many tries as there are numbers: it may be said again and again.
func TestManyTries(t *testing.T) {
	x := started(t, Rules{Retry: 2, RetryMax: 9, Tries: math.MaxInt}, 0)
	for n := range 2000 {
		if !x.again(uint64(n)) {
			t.Fatalf("not said again behind %d times", n)
		}
	}
	x.edges()
}

// P22.2: it may be said again ahead of being due, and at an earlier moment, from which the wait is then.
func TestAgainAtAnyMoment(t *testing.T) {
	x := started(t, Rules{Retry: 5, RetryMax: 100, Tries: 5}, 50)
	if !x.again(51) || x.due(60) || !x.due(61) {
		t.Error("again ahead of being due")
	}
	if !x.again(51) || x.due(70) || !x.due(71) {
		t.Error("again at the same moment")
	}
	if !x.again(10) || x.due(49) || !x.due(50) {
		t.Error("again at an earlier moment")
	}
	if !x.again(0) || x.due(79) || !x.due(80) {
		t.Error("again at 0")
	}
	if !x.again(greatest) || x.due(greatest) || x.again(0) || x.due(1000) {
		t.Error("again at the greatest moment")
	}
}

// P22.2: Due is a question: asked at any moment, in any order, it answers the same.
func TestDueChangesNothing(t *testing.T) {
	x := started(t, Rules{Retry: 5, RetryMax: 30, Tries: 3}, 100)
	for range 3 {
		for range 10 {
			if !x.due(greatest) || x.due(0) || x.due(x.p.said) {
				t.Fatal("Due isn't what it was")
			}
		}
		x.again(x.p.said + 1)
	}
}

// P22.2: timers have nothing of each other.
func TestTimersAreApart(t *testing.T) {
	r := Rules{Retry: 5, RetryMax: 30, Tries: 2}
	x, y := started(t, r, 0), started(t, r, 100)
	x.again(7)
	x.again(8)
	if x.again(9) || !y.again(105) || y.due(114) || !y.due(115) || x.due(27) || !x.due(28) {
		t.Error("two timers")
	}
}

// P22.2: of nil.
func TestNilTimer(t *testing.T) {
	var x *Timer
	for _, now := range edges() {
		if x.Due(now) || x.Again(now) {
			t.Fatalf("nil, at %d", now)
		}
	}
	new(Timer).Due(5)
	new(Timer).Again(5)
}
