package cookie

import (
	"bytes"
	"encoding/hex"
	"strings"
	"testing"
)

// hexed fails unless bytes are those of a text, which is hexadecimal.
func hexed(t *testing.T, name string, got []byte, want string) {
	t.Helper()
	if hex.EncodeToString(got) != want {
		t.Errorf("%s: %x, not %s", name, got, want)
	}
}

// sources are texts of a source: none, usual ones, those with bytes that are no letters or no text at all, and long ones.
func sources() []string {
	return []string{
		"", "a", "here", "there", "10.0.0.1:51820", "[fe80::1%eth0]:1", " ", "\n", "\x00", "here\x00", "\x00here", "h\u00e4r", "h\xe4r",
		"\xff", "\xff\xfe\xfd", "\xc3", "\xed\xa0\x80", "\ufffd", strings.Repeat("s", 31), strings.Repeat("s", 136), strings.Repeat("s", 137),
		strings.Repeat("long ", 20000), string(row(1000, 4)),
	}
}

// secrets are keys of many sizes: none, small ones, and those about a block of the sum.
func secrets() [][]byte {
	out := [][]byte{nil, {}, {0}, {1}, make([]byte, 32), []byte("secret")}
	for _, n := range []int{16, 31, 32, 33, 64, 135, 136, 137, 1000} {
		out = append(out, row(n, n))
	}
	return out
}

// epochs are numbers of periods: the first ones, those at which another byte begins, and the last ones.
func epochs() []uint64 {
	out := []uint64{0, 1, 2, 127, 254, greatest - 1, greatest}
	for i := 1; i < 8; i++ {
		out = append(out, 1<<(8*i)-1, 1<<(8*i), 1<<(8*i)+1)
	}
	return append(out, 0x0807060504030201, 1<<63)
}

// P21.1: cookies and codes that are known by hand: from an HMAC over SHA3-256 that isn't the program's.
func TestMakeByHand(t *testing.T) {
	hexed(t, "of none", Make(nil, 0, ""), "43dddd268e35b21e1083725d6c708f88")
	secret := []byte("secret")
	for _, c := range []struct {
		epoch uint64
		want  string
	}{
		{0, "9e619e2c4c20d596194806ba8fde3a36"}, {1, "c35fb6a6e8cac8ba768d64d848bdcdd2"}, {255, "f7cfff4ffb0339d2e64fa70a8fb24c97"}, {256, "74db46926317c9d226e1d1e738cde849"}, {greatest, "ce550aad574a56c57a1644dc0bd17f4b"},
	} {
		hexed(t, "here", Make(secret, c.epoch, "here"), c.want)
	}
	hexed(t, "a code of nothing", Sign(nil, nil), "e841c164e5b4f10c9f3985587962af72")
	hexed(t, "a code", Sign(Make(secret, 2, "here"), []byte("packet")), "d3fd3142339ec97621845dced2e9b61f")
}

// P21.1: Make, for secrets, numbers and sources of all kinds.
func TestMake(t *testing.T) {
	for _, secret := range secrets() {
		for _, epoch := range epochs() {
			for _, source := range []string{"", "here", "\xff\x00"} {
				makes(t, secret, epoch, source)
			}
		}
	}
	for _, source := range sources() {
		for _, epoch := range []uint64{0, 1, 255, 256, greatest} {
			makes(t, []byte("secret"), epoch, source)
		}
	}
}

// P21.1: the number's bytes are eight, the lowest first: those of other numbers, turned round or fewer, come to others.
func TestMakeOrderOfBytes(t *testing.T) {
	secret := []byte("secret")
	numbers := map[string]uint64{}
	for _, epoch := range []uint64{0, 1, 2, 255, 256, 257, 65535, 65536, 1 << 24, 1 << 32, 1 << 40, 1 << 48, 1 << 56, 1<<56 + 1, 1 << 63, greatest} {
		got := string(makes(t, secret, epoch, "here"))
		if other, there := numbers[got]; there {
			t.Errorf("%d and %d have one cookie", epoch, other)
		}
		numbers[got] = epoch
	}
	key := libraryMac(secret, []byte{1, 2, 3, 4, 5, 6, 7, 8})
	same(t, Make(secret, 0x0807060504030201, "here"), libraryMac(key, []byte("here"))[:16], "Make of bytes 1 to 8")
	key = libraryMac(secret, []byte{0, 1, 0, 0, 0, 0, 0, 0})
	same(t, Make(secret, 256, "here"), libraryMac(key, []byte("here"))[:16], "Make of 256")
}

// P21.1: each byte of the secret and of the source counts, and where the one ends.
func TestMakeEachByteCounts(t *testing.T) {
	secret, source := row(32, 1), row(40, 2)
	want := Make(secret, 7, string(source))
	for i := range secret {
		for bit := range 8 {
			other := bytes.Clone(secret)
			other[i] ^= 1 << bit
			if bytes.Equal(Make(other, 7, string(source)), want) {
				t.Errorf("bit %d of byte %d of the secret doesn't count", bit, i)
			}
		}
	}
	for i := range source {
		for bit := range 8 {
			other := bytes.Clone(source)
			other[i] ^= 1 << bit
			if bytes.Equal(Make(secret, 7, string(other)), want) {
				t.Errorf("bit %d of byte %d of the source doesn't count", bit, i)
			}
		}
		if bytes.Equal(Make(secret, 7, string(source[:i])), want) {
			t.Errorf("the source's bytes from %d on don't count", i)
		}
	}
}

// P21.1: nil and empty are one, for each that is handed in.
func TestNoneIsEmpty(t *testing.T) {
	for _, epoch := range epochs() {
		same(t, Make(nil, epoch, "here"), Make([]byte{}, epoch, "here"), "Make", epoch)
	}
	some := []byte("bytes")
	same(t, Sign(nil, some), Sign([]byte{}, some), "Sign of no cookie")
	same(t, Sign(some, nil), Sign(some, []byte{}), "Sign of no bytes")
	same(t, Sign(nil, nil), Sign([]byte{}, []byte{}), "Sign of nothing")
}

// P21.1: Sign, for cookies and bytes of all sizes.
func TestSign(t *testing.T) {
	for _, n := range []int{0, 1, 15, 16, 17, 32, 135, 136, 137, 138, 500} {
		for _, m := range []int{0, 1, 15, 16, 17, 31, 32, 100, 134, 135, 136, 137, 1184, 1200, 70000} {
			signs(t, row(n, n+1), row(m, m+2))
		}
	}
	signs(t, nil, nil)
	signs(t, nil, row(100, 1))
	signs(t, row(16, 1), nil)
	signs(t, make([]byte, 16), make([]byte, 1200))
	signs(t, Make(nil, 0, ""), []byte("packet"))
}

// P21.1: each bit of a cookie, and of what is signed, counts.
func TestSignEachByteCounts(t *testing.T) {
	cookie, signed := row(16, 1), row(60, 2)
	want := Sign(cookie, signed)
	for _, b := range [][]byte{cookie, signed} {
		for i := range b {
			for bit := range 8 {
				b[i] ^= 1 << bit
				if bytes.Equal(Sign(cookie, signed), want) {
					t.Errorf("bit %d of byte %d of %d doesn't count", bit, i, len(b))
				}
				b[i] ^= 1 << bit
			}
		}
	}
	for i := range signed {
		if bytes.Equal(Sign(cookie, signed[:i]), want) {
			t.Errorf("the bytes from %d on don't count", i)
		}
	}
}

// P21.1: cookies and codes are 16 bytes, of whatever they are.
func TestSizes(t *testing.T) {
	for _, secret := range secrets() {
		for _, source := range sources() {
			if n := len(Make(secret, 300, source)); n != 16 {
				t.Errorf("a cookie of %d bytes", n)
			}
			if n := len(Sign(secret, []byte(source))); n != 16 {
				t.Errorf("a code of %d bytes", n)
			}
		}
	}
}
