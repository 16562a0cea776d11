package cookie

import (
	"bytes"
	"crypto/hmac"
	"crypto/sha3"
	"hash"
	"math"
	"math/big"
	"slices"
	"testing"

	"redan/hkdf"
)

const greatest = math.MaxUint64

// row is a row of n bytes, another one for each seed.
func row(n, seed int) []byte {
	out := make([]byte, n)
	x := uint32(seed)*2654435761 + 12345
	for i := range n {
		x = x*1664525 + 1013904223
		out[i] = byte(x >> 24)
	}
	return out
}

// libraryMac is the library's HMAC over SHA3-256.
func libraryMac(key, b []byte) []byte {
	h := hmac.New(func() hash.Hash { return sha3.New256() }, key)
	h.Write(b)
	return h.Sum(nil)
}

// long is a number as a long one.
func long(x uint64) *big.Int { return new(big.Int).SetUint64(x) }

// plainEpoch says P21.1's words of Epoch, with long numbers.
func plainEpoch(now, period uint64) uint64 {
	if period == 0 {
		period = 1
	}
	return new(big.Int).Quo(long(now), long(period)).Uint64()
}

// eight are a number's bytes, the lowest first.
func eight(x uint64) []byte {
	b := long(x).FillBytes(make([]byte, 8))
	slices.Reverse(b)
	return b
}

// plainMake says P21.1's words of Make, over the library's HMAC.
func plainMake(secret []byte, epoch uint64, source string) []byte {
	return libraryMac(libraryMac(secret, eight(epoch)), []byte(source))[:16]
}

// plainSign says P21.1's words of Sign, over the library's HMAC.
func plainSign(cookie, signed []byte) []byte { return libraryMac(cookie, signed)[:16] }

// plainValid says P21.2's words.
func plainValid(secret []byte, now, period uint64, source string, signed, mac []byte) bool {
	e := plainEpoch(now, period)
	if bytes.Equal(mac, plainSign(plainMake(secret, e, source), signed)) {
		return true
	}
	return e != 0 && bytes.Equal(mac, plainSign(plainMake(secret, e-1, source), signed))
}

// same fails unless bytes are the right ones.
func same(t *testing.T, got, want []byte, name string, of ...any) {
	t.Helper()
	if !bytes.Equal(got, want) {
		t.Fatalf("%s %v: %x, not %x", name, of, got, want)
	}
}

// makes holds Make to the chapter's words, by the library and by hkdf.
func makes(t *testing.T, secret []byte, epoch uint64, source string) []byte {
	t.Helper()
	got := Make(secret, epoch, source)
	same(t, got, plainMake(secret, epoch, source), "Make", secret, epoch, source)
	same(t, got, hkdf.Mac(hkdf.Mac(secret, eight(epoch)), []byte(source))[:16], "Make, by hkdf", secret, epoch, source)
	return got
}

// signs holds Sign to the chapter's words, by the library and by hkdf.
func signs(t *testing.T, cookie, signed []byte) []byte {
	t.Helper()
	got := Sign(cookie, signed)
	same(t, got, plainSign(cookie, signed), "Sign", cookie, len(signed))
	same(t, got, hkdf.Mac(cookie, signed)[:16], "Sign, by hkdf", cookie, len(signed))
	return got
}

// asked is what Valid is asked.
type asked struct {
	secret      []byte
	now, period uint64
	source      string
	signed, mac []byte
}

// valid is the program's answer, held to the chapter's words.
func (a asked) valid(t *testing.T) bool {
	t.Helper()
	got := Valid(a.secret, a.now, a.period, a.source, a.signed, a.mac)
	if want := plainValid(a.secret, a.now, a.period, a.source, a.signed, a.mac); got != want {
		t.Fatalf("%+v: %v, not %v", a, got, want)
	}
	return got
}

// is looks for this answer, which is known by hand.
func (a asked) is(t *testing.T, want bool, name string, of ...any) {
	t.Helper()
	if got := a.valid(t); got != want {
		t.Errorf("%s %v: %+v: %v, not %v", name, of, a, got, want)
	}
}

// at is the same, asked at another time.
func (a asked) at(now uint64) asked {
	a.now = now
	return a
}

// of is the same, with the code that a cookie of that moment gives.
func (a asked) of(moment uint64) asked {
	a.mac = Sign(Make(a.secret, Epoch(moment, a.period), a.source), a.signed)
	return a
}

// edges are numbers at which something might turn over.
func edges() []uint64 {
	out := []uint64{0, 1, 2, 3, 5, 10, 200, greatest, greatest - 1, greatest - 2}
	for _, at := range []uint64{8, 16, 31, 32, 53, 63} {
		for by := range uint64(3) {
			out = append(out, 1<<at-1+by)
		}
	}
	return out
}
