package cookie

import (
	"bytes"
	"strings"
	"testing"
)

// some is what Valid may be asked, with this period; its code is still to come.
func some(period uint64) asked {
	return asked{secret: []byte("secret"), period: period, source: "here", signed: []byte("packet")}
}

// P21.2: the code of period 2 of 10, at each time from 0 to 60.
func TestValidByHand(t *testing.T) {
	a := some(10).of(25)
	for now := range uint64(60) {
		a.at(now).is(t, now >= 20 && now <= 39, "the code of 25")
	}
}

// P21.2: the first and the last moments of the period, of the next one, of the one behind that, and of the one ahead.
func TestValidMoments(t *testing.T) {
	for _, period := range []uint64{1, 2, 3, 10, 1 << 20, 1<<32 + 7, 1 << 60} {
		for _, number := range []uint64{1, 2, 3, 7} {
			first := number * period
			for _, moment := range []uint64{first, first + period/2, first + period - 1} {
				a := some(period).of(moment)
				a.at(first-1).is(t, false, "the last moment ahead", period)
				a.at(0).is(t, false, "the first moment of all", period)
				a.at(first).is(t, true, "its first moment", period)
				a.at(moment).is(t, true, "its moment", period)
				a.at(first+period-1).is(t, true, "its last moment", period)
				a.at(first+period).is(t, true, "the next one's first moment", period)
				a.at(first+2*period-1).is(t, true, "the next one's last moment", period)
				a.at(first+2*period).is(t, false, "the first moment behind that", period)
				a.at(first+3*period).is(t, false, "a later moment", period)
				a.at(greatest).is(t, false, "the last moment of all", period)
			}
		}
	}
}

// P21.2: period 0 has none ahead of it: the number doesn't turn over.
func TestValidPeriodNought(t *testing.T) {
	for _, period := range []uint64{0, 1, 2, 10, 1 << 40, greatest} {
		last := some(period)
		last.mac = Sign(Make(last.secret, greatest, last.source), last.signed)
		a := some(period).of(0)
		a.at(0).is(t, true, "the first moment", period)
		last.at(0).is(t, false, "the greatest number's code in period 0", period)
		end := max(period, 1) - 1
		a.at(end).is(t, true, "the last moment of period 0", period)
		last.at(end).is(t, false, "the greatest number's code at its end", period)
		if period < greatest {
			a.at(end+1).is(t, true, "the first moment of period 1", period)
			last.at(end+1).is(t, false, "the greatest number's code in period 1", period)
		}
		if period < 1<<62 {
			a.at(2*end+2).is(t, false, "the first moment of period 2", period)
		}
	}
}

// P21.2: a period of 0 counts as 1.
func TestValidPeriodNone(t *testing.T) {
	for _, moment := range []uint64{0, 1, 2, 255, 256, 1 << 32, greatest - 2} {
		for _, period := range []uint64{0, 1} {
			a := some(period).of(moment)
			same(t, a.mac, some(1-period).of(moment).mac, "the code of period", period)
			a.at(moment).is(t, true, "its moment")
			a.at(moment+1).is(t, true, "the next one")
			a.at(moment+2).is(t, false, "the one behind that")
			a.at(moment+3).is(t, false, "a later one")
			if moment > 0 {
				a.at(moment-1).is(t, false, "the one ahead")
			}
		}
	}
}

// P21.2: the last periods that there are: the sum of a number and 1 doesn't turn over.
func TestValidLastPeriods(t *testing.T) {
	for _, period := range []uint64{0, 1, 2, 3, 10, 1000, 1 << 32, 1 << 62, 1<<63 - 1, 1 << 63, greatest} {
		length := max(period, 1)
		first := greatest / length * length // of the last period
		a := some(period).of(greatest)
		a.at(first).is(t, true, "the last period's first moment", period)
		a.at(greatest).is(t, true, "the last moment", period)
		a.at(first-1).is(t, false, "the moment ahead of it", period)
		a.at(0).is(t, false, "the first moment of all", period)
		a = some(period).of(first - 1)
		a.at(first-1).is(t, true, "the last but one's last moment", period)
		a.at(first-length).is(t, true, "its first moment", period)
		a.at(first).is(t, true, "the last one's first moment", period)
		a.at(greatest).is(t, true, "the last moment", period)
		if first-length >= length {
			a.at(first-length-1).is(t, false, "the moment ahead of it", period)
			a = some(period).of(first - length - 1)
			a.at(first-1).is(t, true, "the last but one's last moment", period)
			a.at(first).is(t, false, "the last one's first moment", period)
			a.at(greatest).is(t, false, "the last moment", period)
		}
	}
}

// P21.2: another source, another secret, and other bytes have other codes.
func TestValidOfOthers(t *testing.T) {
	for _, now := range []uint64{20, 29, 30, 39} {
		a := some(10).of(25).at(now)
		a.is(t, true, "as it was", now)
		for _, source := range append(sources(), "her", "here ", "Here", "hera") {
			b := a
			b.source = source
			b.is(t, source == "here", "another source", now)
		}
		for _, secret := range append(secrets(), []byte("secre"), []byte("secret0"), []byte("Secret")) {
			b := a
			b.secret = secret
			b.is(t, string(secret) == "secret", "another secret", now)
		}
		for _, signed := range []string{"", "packe", "packet0", "Packet", "packet\x00", "\x00packet", strings.Repeat("packet", 300)} {
			b := a
			b.signed = []byte(signed)
			b.is(t, false, "other bytes", now)
		}
		b := a
		b.signed = nil
		b.is(t, false, "no bytes", now)
	}
}

// P21.2: a secret with a byte 0 behind it is the same key, up to a block: so the sums have it, and so it is valid.
func TestValidOfLongerSecret(t *testing.T) {
	a := some(10).of(25).at(25)
	a.secret = []byte("secret\x00")
	a.is(t, true, "a byte 0 behind the secret")
}

// P21.2: a code in which one bit is turned is none, in neither period.
func TestValidTurned(t *testing.T) {
	for _, now := range []uint64{25, 35, 0} {
		a := some(10).of(25)
		if now == 0 {
			a = a.of(0)
		}
		right := a.mac
		for i := range right {
			for bit := range 8 {
				a.mac = bytes.Clone(right)
				a.mac[i] ^= 1 << bit
				a.at(now).is(t, false, "turned", i, bit)
			}
		}
	}
}

// P21.2: codes of other sizes are none, whatever is missing or stands behind.
func TestValidSizes(t *testing.T) {
	for _, now := range []uint64{20, 25, 35, 39} {
		a := some(10).of(25).at(now)
		right := a.mac
		for n := range 16 {
			a.mac = right[:n]
			a.is(t, false, "the first bytes alone", n)
			a.mac = right[n+1:]
			a.is(t, false, "the last bytes alone", n)
		}
		whole := libraryMac(Make(a.secret, 2, a.source), a.signed)
		for n := 17; n <= 32; n++ {
			a.mac = whole[:n]
			a.is(t, false, "more of the sum", n)
			a.mac = append(bytes.Clone(right), make([]byte, n-16)...)
			a.is(t, false, "noughts behind", n)
			a.mac = append(make([]byte, n-16), right...)
			a.is(t, false, "noughts ahead", n)
		}
		for _, mac := range [][]byte{nil, {}, make([]byte, 15), make([]byte, 16), make([]byte, 17), append(bytes.Clone(right), right...), bytes.Repeat([]byte{255}, 16), whole[16:]} {
			a.mac = mac
			a.is(t, false, "another code")
		}
		a.mac = right
		a.is(t, true, "as it was")
	}
}

// P21.2: neither the cookie itself is a code, nor one by a cookie that is cut, longer, or of noughts; nor is one of
// each other period.
func TestValidOfOtherCookies(t *testing.T) {
	a := some(10).at(25)
	cookie := Make(a.secret, 2, a.source)
	for _, mac := range [][]byte{
		cookie, Sign(nil, a.signed), Sign(make([]byte, 16), a.signed), Sign(cookie[:15], a.signed), Sign(append(bytes.Clone(cookie), 1), a.signed),
		Sign(a.secret, a.signed), Sign(a.signed, cookie), Sign(libraryMac(a.secret, eight(2)), a.signed),
	} {
		a.mac = mac
		a.is(t, false, "of another cookie")
	}
	for _, epoch := range append(epochs(), 3, 4, 22, 25, 18, 10) {
		a.mac = Sign(Make(a.secret, epoch, a.source), a.signed)
		a.is(t, epoch == 2 || epoch == 1, "of another period", epoch)
	}
}

// P21.2: nothing at all may be signed, of no source, by no secret.
func TestValidOfNothing(t *testing.T) {
	for _, now := range []uint64{0, 1, 9, 10, 19, 20, greatest} {
		for _, secret := range [][]byte{nil, {}, make([]byte, 32)} {
			for _, signed := range [][]byte{nil, {}} {
				a := asked{secret: secret, now: now, period: 10, signed: signed}
				a.is(t, false, "no code", now)
				a.of(now).is(t, true, "its code", now)
				a.of(0).is(t, now < 20, "the code of 0", now)
			}
		}
	}
}

// P21.3: a code by the cookie of a moment is valid for the rest of its period, and in the next one; and then no more.
func TestStaysValid(t *testing.T) {
	for _, period := range []uint64{0, 1, 2, 3, 7, 11} {
		length := max(period, 1)
		for moment := range uint64(24) {
			a := some(period).of(moment)
			end := (moment/length + 2) * length
			for now := range uint64(50) {
				b := a.at(now)
				got := b.valid(t)
				if now >= moment && now < end && !got {
					t.Errorf("period %d: the code of %d isn't valid at %d", period, moment, now)
				}
				if now >= end && got {
					t.Errorf("period %d: the code of %d is valid at %d", period, moment, now)
				}
			}
		}
	}
}

// P21.3: the same at great times, up to the last moment that there is.
func TestStaysValidLate(t *testing.T) {
	for _, period := range []uint64{0, 1, 2, 5, 16} {
		length := max(period, 1)
		for back := range uint64(70) {
			moment := greatest - back
			a := some(period).of(moment)
			for ahead := uint64(0); ahead <= back; ahead += 1 + ahead/8 {
				now := moment + ahead
				a.at(now).is(t, now/length-moment/length <= 1, "a late code", moment)
			}
		}
	}
}
