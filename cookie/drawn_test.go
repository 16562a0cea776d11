package cookie

import (
	"math/rand"
	"testing"
)

// drawn is what Valid may be asked, with a code that is right mostly, as a source of small numbers tells.
func drawn(next func(n int) int) asked {
	number := func() uint64 {
		switch next(4) {
		case 0:
			return edges()[next(len(edges()))]
		case 1:
			return uint64(next(30))
		case 2:
			return greatest - uint64(next(30))
		}
		return uint64(next(1<<30)) << next(35)
	}
	a := asked{secret: row(next(40), next(3)), now: number(), period: number(), source: string(row(next(20), next(3))), signed: row(next(200), next(5))}
	epoch := plainEpoch(a.now, a.period)
	switch next(6) {
	case 0:
		epoch++
	case 1, 2:
		epoch--
	case 3:
		epoch -= 2
	}
	a.mac = plainSign(plainMake(a.secret, epoch, a.source), a.signed)
	switch next(12) {
	case 0:
		a.mac = a.mac[:next(17)]
	case 1:
		a.mac = append(a.mac, byte(next(256)))
	case 2:
		a.mac[next(16)] ^= 1 << next(8)
	case 3:
		a.source = string(row(next(20), next(3)))
	case 4:
		a.secret = row(next(40), next(3))
	case 5:
		a.signed = row(next(200), next(5))
	}
	return a
}

// P21.1, P21.2: drawn calls are as the chapter's words have them, and both answers come often.
func TestDrawn(t *testing.T) {
	r := rand.New(rand.NewSource(1))
	answers := map[bool]int{}
	for range 4000 {
		a := drawn(r.Intn)
		answers[a.valid(t)]++
		makes(t, a.secret, a.now, a.source)
		signs(t, a.mac, a.signed)
	}
	if answers[true] < 1000 || answers[false] < 1000 {
		t.Errorf("answers: %v", answers)
	}
}

// P21.3: a code by the cookie of a drawn moment is valid till the end of the next period.
func TestDrawnStaysValid(t *testing.T) {
	r := rand.New(rand.NewSource(2))
	for range 1000 {
		a := drawn(r.Intn)
		length := max(a.period, 1)
		b := a.of(a.now)
		b.is(t, true, "its moment")
		rest := length - 1 - a.now%length
		if rest > greatest-a.now {
			continue
		}
		b.at(a.now+rest).is(t, true, "its last moment")
		if length > greatest-a.now-rest {
			continue
		}
		b.at(a.now+rest+1).is(t, true, "the next period's first moment")
		b.at(a.now+rest+length).is(t, true, "the next period's last moment")
		if a.now+rest+length < greatest {
			b.at(a.now+rest+length+1).is(t, false, "the moment behind that")
		}
	}
}

// FuzzMake holds cookies and codes of any bytes to the chapter's words.
func FuzzMake(f *testing.F) {
	f.Add([]byte(nil), uint64(0), "", []byte(nil))
	f.Add([]byte("secret"), uint64(256), "here", []byte("packet"))
	f.Add(make([]byte, 137), uint64(greatest), "\xff\x00", make([]byte, 200))
	f.Fuzz(func(t *testing.T, secret []byte, epoch uint64, source string, signed []byte) {
		cookie := makes(t, secret, epoch, source)
		signs(t, cookie, signed)
		signs(t, signed, secret)
		if len(cookie) != 16 {
			t.Fatalf("a cookie of %d bytes", len(cookie))
		}
	})
}

// FuzzValid holds any question, with the codes of the periods about its own, to the chapter's words.
func FuzzValid(f *testing.F) {
	f.Add([]byte("secret"), uint64(25), uint64(10), "here", []byte("packet"), []byte("mac"))
	f.Add([]byte(nil), uint64(0), uint64(0), "", []byte(nil), []byte(nil))
	f.Add([]byte{0}, uint64(greatest), uint64(1), "\xff", make([]byte, 137), make([]byte, 16))
	f.Add([]byte{1}, uint64(1<<63), uint64(1<<63), "a", []byte{2}, make([]byte, 17))
	f.Fuzz(func(t *testing.T, secret []byte, now, period uint64, source string, signed, mac []byte) {
		a := asked{secret: secret, now: now, period: period, source: source, signed: signed, mac: mac}
		a.valid(t)
		e := plainEpoch(now, period)
		if Epoch(now, period) != e {
			t.Fatalf("Epoch of %d, period %d: %d, not %d", now, period, Epoch(now, period), e)
		}
		for _, epoch := range []uint64{e, e - 1, e - 2, e + 1} {
			a.mac = Sign(Make(secret, epoch, source), signed)
			a.is(t, epoch == e || epoch == e-1 && e != 0, "of period", epoch)
		}
	})
}
