package cookie

import (
	"bytes"
	"testing"
	"unsafe"
)

// spoil changes all bytes that a row could reach, those behind its end too.
func spoil(b []byte) {
	b = b[:cap(b)]
	for i := range b {
		b[i] = ^b[i]
	}
}

// room is a row with more room behind it, in which something stands.
func room(b []byte) []byte { return append(bytes.Clone(b), row(100, 9)...)[:len(b)] }

// untouched fails if a row, or what stands behind it, isn't as room made it.
func untouched(t *testing.T, b, was []byte, name string, of ...any) {
	t.Helper()
	if !bytes.Equal(b, was) || !bytes.Equal(b[:len(b)+100][len(b):], row(100, 9)) {
		t.Fatalf("%s %v: what was handed in was changed", name, of)
	}
}

// lengths are those at which a key or bytes might be kept, or filled up in their own memory.
func lengths() []int { return []int{0, 1, 15, 16, 17, 31, 32, 33, 120, 135, 136, 137, 300} }

// Rule 3: Make doesn't change or keep its secret, and answers new memory.
func TestMakeMemory(t *testing.T) {
	for _, n := range lengths() {
		was := row(n, n+1)
		secret := room(was)
		first := Make(secret, 5, "here")
		second := Make(secret, 5, "here")
		want := plainMake(was, 5, "here")
		untouched(t, secret, was, "Make", n)
		spoil(first)
		untouched(t, secret, was, "Make, when the answer changes", n)
		same(t, second, want, "a cookie, when another one changes", n)
		same(t, Make(secret, 5, "here"), want, "a later cookie", n)
		spoil(secret)
		same(t, second, want, "a cookie, when the secret changes", n)
		same(t, Make(was, 5, "here"), want, "a cookie of the secret as it was", n)
	}
}

// Rule 3: a source whose bytes change later is not kept.
func TestSourceIsNotKept(t *testing.T) {
	for _, n := range lengths()[1:] {
		b := row(n, 3)
		source := unsafe.String(&b[0], n)
		was := string(bytes.Clone(b))
		got := Make([]byte("secret"), 1, source)
		code := Sign(got, []byte("packet"))
		if !Valid([]byte("secret"), 1, 1, source, []byte("packet"), code) {
			t.Fatalf("a source of %d bytes: not valid", n)
		}
		if string(b) != was {
			t.Fatalf("a source of %d bytes was changed", n)
		}
		spoil(b)
		same(t, got, plainMake([]byte("secret"), 1, was), "a cookie, when the source changes", n)
		if Valid([]byte("secret"), 1, 1, source, []byte("packet"), code) || !Valid([]byte("secret"), 1, 1, was, []byte("packet"), code) {
			t.Fatalf("a source of %d bytes is kept", n)
		}
	}
}

// Rule 3: Sign doesn't change or keep what it is handed, and answers new memory.
func TestSignMemory(t *testing.T) {
	for _, n := range lengths() {
		for _, m := range lengths() {
			wasCookie, wasSigned := row(n, n+1), row(m, m+2)
			cookie, signed := room(wasCookie), room(wasSigned)
			first := Sign(cookie, signed)
			second := Sign(cookie, signed)
			want := plainSign(wasCookie, wasSigned)
			untouched(t, cookie, wasCookie, "Sign, the cookie", n, m)
			untouched(t, signed, wasSigned, "Sign, the bytes", n, m)
			spoil(first)
			untouched(t, cookie, wasCookie, "Sign, the cookie, when the answer changes", n, m)
			untouched(t, signed, wasSigned, "Sign, the bytes, when the answer changes", n, m)
			spoil(cookie)
			spoil(signed)
			same(t, second, want, "a code, when all else changes", n, m)
			same(t, Sign(wasCookie, wasSigned), want, "a later code", n, m)
		}
	}
}

// Rule 3: Sign of one row for both, and Make and Sign one behind the other, in the memory of an answer.
func TestSharedMemory(t *testing.T) {
	for _, n := range lengths() {
		was := row(n, 5)
		b := room(was)
		same(t, Sign(b, b), plainSign(was, was), "Sign of one row for both", n)
		untouched(t, b, was, "Sign of one row for both", n)
	}
	cookie := Make([]byte("secret"), 2, "here")
	was := bytes.Clone(cookie)
	code := Sign(cookie, cookie)
	same(t, cookie, was, "the cookie that was signed by itself")
	spoil(code)
	same(t, cookie, was, "the cookie, when its code changes")
}

// Rule 3: Valid changes nothing that it is handed, whether the code is of this period, of the one ahead, or wrong.
func TestValidMemory(t *testing.T) {
	for _, now := range []uint64{0, 10, 20, 30} {
		for _, n := range lengths() {
			wasSecret, wasSigned := row(n, n+1), row(n, n+2)
			wasMac := plainSign(plainMake(wasSecret, 1, "here"), wasSigned)
			for _, size := range []int{16, 15, 0} {
				secret, signed, mac := room(wasSecret), room(wasSigned), room(wasMac[:size])
				got := Valid(secret, now, 10, "here", signed, mac)
				if want := size == 16 && (now == 10 || now == 20); got != want {
					t.Fatalf("Valid at %d, a secret of %d bytes, a code of %d: %v", now, n, size, got)
				}
				untouched(t, secret, wasSecret, "Valid, the secret", now, n, size)
				untouched(t, signed, wasSigned, "Valid, the bytes", now, n, size)
				untouched(t, mac, wasMac[:size], "Valid, the code", now, n, size)
			}
		}
	}
}

// Rule 4: nothing is kept from one call to another: whatever was asked between, the answers are the same.
func TestNothingIsKept(t *testing.T) {
	secret := []byte("secret")
	code := Sign(Make(secret, 2, "here"), []byte("packet"))
	for round := range uint64(50) {
		Make(row(int(round), 1), round, "there")
		Valid(row(int(round), 1), round, round, "here", []byte("packet"), code)
		same(t, Sign(Make(secret, 2, "here"), []byte("packet")), code, "a code", round)
		a := asked{secret: secret, now: 20 + round%40, period: 10, source: "here", signed: []byte("packet"), mac: code}
		a.is(t, round%40 < 20, "behind others", round)
	}
}
