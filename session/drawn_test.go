package session

import (
	"math/rand"
	"testing"

	"redan/api"
	"redan/sym"
)

// number is one of any size, those at edges and small ones mostly.
func number(next func(n int) int) uint64 {
	switch next(4) {
	case 0:
		return edges()[next(len(edges()))]
	case 1:
		return uint64(next(30))
	case 2:
		return greatest - uint64(next(30))
	}
	return uint64(next(1<<30)) << next(35)
}

// rules are any, as a source of small numbers tells; their ends are near mostly.
func rules(next func(n int) int) Rules {
	r := Rules{Retry: number(next), RetryMax: number(next), Tries: next(12) - 2, Rekey: uint64(next(300)), Expire: uint64(next(600)), RekeyCount: uint64(next(15)), ExpireCount: uint64(next(40))}
	switch next(8) {
	case 0:
		r.Expire = number(next)
	case 1:
		r.Rekey = number(next)
	case 2:
		r.ExpireCount = number(next)
	case 3:
		r.RekeyCount = number(next)
	}
	return r
}

// drawnTimer asks one timer what a source of small numbers tells.
func drawnTimer(t *testing.T, next func(n int) int) {
	t.Helper()
	r := rules(next)
	now := number(next)
	x := started(t, r, now)
	for range 12 {
		if next(4) == 0 {
			now = number(next)
		} else {
			now += plainWait(r, x.p.again) - 1 + uint64(next(3))
		}
		x.due(now)
		if next(2) == 0 {
			x.again(now)
		}
		x.edges()
	}
	waits(t, r, next(200)-5)
}

// P22.1, P22.2: drawn timers are as the chapter's words have them.
func TestDrawnTimers(t *testing.T) {
	r := rand.New(rand.NewSource(1))
	for range 3000 {
		drawnTimer(t, r.Intn)
	}
}

// key is a cipher's, whole mostly.
func key(next func(n int) int, seed int) []byte {
	switch next(12) {
	case 0:
		return nil
	case 1:
		return row(next(40), seed)
	}
	return row(32, seed)
}

// first is the number of a cipher's first text.
func first(next func(n int) int) uint64 {
	if next(3) == 0 {
		return number(next)
	}
	return 0
}

// drawnEnds lets two ends send and take what a source of small numbers tells; how often each error came is counted.
func drawnEnds(t *testing.T, next func(n int) int, came map[api.Errno]int) {
	t.Helper()
	one := sym.Cipher{Key: key(next, 1), N: first(next)}
	two := sym.Cipher{Key: key(next, 2), N: first(next)}
	born := uint64(next(1000))
	r := rules(next)
	x, y := both(t, one, two, r, born), both(t, two, one, r, born+uint64(next(20)))
	var all []sent
	now := born
	for range 60 {
		if next(15) == 0 {
			now = number(next)
		} else if now < born || now > born+10000 {
			now = born
		} else {
			now += uint64(next(12))
		}
		if next(2) == 0 {
			text := row(next(70), next(100))
			n, box, e := x.seal(text, now)
			came[e]++
			if e == api.OK {
				all = append(all, sent{n, text, box})
			}
			continue
		}
		came[drawnOpen(y, all, next, now)]++
	}
	x, y = y, x
	x.asks(number(next))
	y.asks(number(next))
}

// drawnOpen lets an end open one of what was sent, as it is mostly.
func drawnOpen(y *pair, all []sent, next func(n int) int, now uint64) api.Errno {
	y.t.Helper()
	s := sent{number: number(next), box: row(next(30), next(9))}
	if len(all) > 0 && next(10) > 0 {
		s = all[next(len(all))]
	}
	switch next(10) {
	case 0:
		s.number += uint64(next(5)) - 2
	case 1:
		s.box = s.box[:next(len(s.box)+1)]
	case 2:
		if len(s.box) > 0 {
			s.box = turned(s.box, next(8*len(s.box)))
		}
	}
	_, e := y.open(s.number, s.box, now)
	return e
}

// P22.3, P22.4: drawn calls are as the chapter's words have them, and each answer comes often.
func TestDrawnSessions(t *testing.T) {
	r := rand.New(rand.NewSource(2))
	came := map[api.Errno]int{}
	for range 800 {
		drawnEnds(t, r.Intn, came)
	}
	for e, least := range map[api.Errno]int{api.OK: 5000, api.ErrExpired: 2000, api.ErrReplay: 1000, api.ErrAuth: 500, api.ErrShort: 200, api.ErrNonce: 50, api.ErrArg: 500} {
		if came[e] < least {
			t.Errorf("error %d came %d times", int(e), came[e])
		}
	}
}

// told are small numbers that stand in bytes, one behind the other; then all are 0.
func told(b []byte) func(n int) int {
	return func(n int) int {
		out := 0
		for size := n - 1; size > 0; size >>= 8 {
			out <<= 8
			if len(b) > 0 {
				out |= int(b[0])
				b = b[1:]
			}
		}
		return out % n
	}
}

// FuzzTimer holds any timer to the chapter's words.
func FuzzTimer(f *testing.F) {
	f.Add(uint64(5), uint64(30), 2, uint64(0), uint64(5), []byte(nil))
	f.Add(uint64(0), uint64(0), -1, uint64(greatest), uint64(0), []byte{1, 2, 3})
	f.Add(uint64(1), uint64(greatest), 80, uint64(greatest-5), uint64(greatest), row(50, 1))
	f.Fuzz(func(t *testing.T, retry, most uint64, tries int, said, now uint64, b []byte) {
		r := Rules{Retry: retry, RetryMax: most, Tries: tries}
		waits(t, r, tries)
		x := started(t, r, said)
		for n := range 70 {
			waits(t, r, n)
			x.due(now)
			x.edges()
			x.again(now)
			now += plainWait(r, n)
		}
		drawnTimer(t, told(b))
	})
}

// FuzzSessions holds two ends, between which anything goes, to the chapter's words.
func FuzzSessions(f *testing.F) {
	f.Add([]byte(nil))
	for seed := range 6 {
		f.Add(row(50*seed+10, seed))
	}
	f.Fuzz(func(t *testing.T, b []byte) {
		drawnEnds(t, told(b), map[api.Errno]int{})
	})
}
