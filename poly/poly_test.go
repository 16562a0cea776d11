package poly

import (
	"bytes"
	"encoding/hex"
	"fmt"
	"math/big"
	"slices"
	"testing"
)

// row is a row of n bytes, another one for each seed.
func row(n, seed int) []byte {
	out := make([]byte, n)
	x := uint32(seed)*2654435761 + 12345
	for i := range n {
		x = x*1664525 + 1013904223
		out[i] = byte(x >> 24)
	}
	return out
}

// spoil changes all bytes that a row could reach, those behind its end too.
func spoil(b []byte) {
	b = b[:cap(b)]
	for i := range b {
		b[i] = ^b[i]
	}
}

// fromHex are the bytes of a text.
func fromHex(t testing.TB, text string) []byte {
	t.Helper()
	out, err := hex.DecodeString(text)
	if err != nil {
		t.Fatal(err)
	}
	return out
}

// same fails unless two rows are the same.
func same(t *testing.T, name string, got, want []byte) {
	t.Helper()
	if !bytes.Equal(got, want) {
		t.Fatalf("%s: %x, want %x", name, got, want)
	}
}

// full is a row of n bytes 255.
func full(n int) []byte { return bytes.Repeat([]byte{255}, n) }

// power is 2^n.
func power(n int) *big.Int { return new(big.Int).Lsh(big.NewInt(1), uint(n)) }

// plus is a number and a small one.
func plus(a *big.Int, n int) *big.Int { return new(big.Int).Add(a, big.NewInt(int64(n))) }

// prime is 2^130 - 5.
func prime() *big.Int { return plus(power(130), -5) }

// plainNumber says the words of the chapter: the i-th byte times 256^i, together.
func plainNumber(b []byte) *big.Int {
	turned := bytes.Clone(b)
	slices.Reverse(turned)
	return new(big.Int).SetBytes(turned)
}

// plainBytes are the 16 bytes of a number below 2^128, the lowest first.
func plainBytes(x *big.Int) []byte {
	out := x.FillBytes(make([]byte, 16))
	slices.Reverse(out)
	return out
}

// taken tells whether Clamp takes away a bit, by the words of P8.1.
func taken(place int) bool {
	switch place / 8 {
	case 3, 7, 11, 15:
		return place%8 >= 4
	case 4, 8, 12:
		return place%8 < 2
	}
	return false
}

// plainClamp says the words of P8.1, bit by bit.
func plainClamp(key []byte) []byte {
	out := make([]byte, 16)
	for place := range 128 {
		if bit := key[place/8] >> (place % 8) & 1; !taken(place) {
			out[place/8] |= bit << (place % 8)
		}
	}
	return out
}

// plainSum is what P8.2 has behind the last piece, ahead of the sum with s.
func plainSum(key, b []byte) *big.Int {
	r, sum := plainNumber(plainClamp(key)), new(big.Int)
	for piece := range slices.Chunk(b, 16) {
		sum.Add(sum, plainNumber(piece))
		sum.Add(sum, power(8*len(piece)))
		sum.Mul(sum, r)
		sum.Mod(sum, prime())
	}
	return sum
}

// plainMac says the words of P8.2.
func plainMac(key, b []byte) []byte {
	sum := plainSum(key, b)
	sum.Add(sum, plainNumber(key[16:]))
	return plainBytes(sum.Mod(sum, power(128)))
}

// isMac fails unless Mac is what the words of P8.2 say.
func isMac(t *testing.T, key, b []byte) {
	t.Helper()
	if got, want := Mac(key, b), plainMac(key, b); !bytes.Equal(got, want) {
		t.Fatalf("Mac of %x and %d bytes %x: %x, want %x", key, len(b), b, got, want)
	}
}

// keyOf is a key of two halves.
func keyOf(r, s []byte) []byte { return slices.Concat(r, s) }

// counted is the key of bytes 0 to 31.
func counted() []byte {
	out := make([]byte, 32)
	for i := range out {
		out[i] = byte(i)
	}
	return out
}

// halves are edges of what a half of a key can be.
func halves() [][]byte {
	out := [][]byte{make([]byte, 16), full(16), counted()[:16]}
	for _, place := range []int{0, 1, 27, 34, 63, 64, 91, 98, 127} {
		one := make([]byte, 16)
		one[place/8] = 1 << (place % 8)
		out = append(out, one)
	}
	for seed := range 4 {
		out = append(out, row(16, seed))
	}
	return out
}

// keys are those of all halves.
func keys() [][]byte {
	var out [][]byte
	for _, r := range halves() {
		for _, s := range halves() {
			out = append(out, keyOf(r, s))
		}
	}
	return out
}

// sizes are those about whole pieces, and others.
func sizes() []int {
	return []int{0, 1, 2, 7, 8, 9, 14, 15, 16, 17, 18, 31, 32, 33, 47, 48, 49, 63, 64, 65, 79, 80, 81, 127, 128, 129, 255, 256, 257}
}

// rows are rows of one size: bytes 0, bytes 255, a single 1 at the end, and ones without order.
func rows(n int) [][]byte {
	out := [][]byte{make([]byte, n), full(n), row(n, n), row(n, n+1000)}
	if n > 0 {
		out = append(out, append(make([]byte, n-1), 1))
	}
	return out
}

// P8.2: the chapter's example.
func TestExample(t *testing.T) {
	same(t, "Mac of the bytes 0 to 31 and nothing", Mac(counted(), nil), counted()[16:])
}

// P8.1: RFC 8439, 2.5.2.
func TestClampOfTheStandard(t *testing.T) {
	key := fromHex(t, "85d6be7857556d337f4452fe42d506a80103808afb0db2fd4abff6af4149f51b")
	same(t, "Clamp", Clamp(key), fromHex(t, "85d6be0854556d037c44520e40d50608"))
}

// P8.1: of bytes 255 what is left is what Clamp takes nothing of.
func TestClampOfFullBytes(t *testing.T) {
	same(t, "Clamp of bytes 255", Clamp(full(32)), fromHex(t, "ffffff0ffcffff0ffcffff0ffcffff0f"))
}

// P8.1: keys of all kinds, by the promise's words.
func TestClampByItsWords(t *testing.T) {
	for _, key := range keys() {
		same(t, fmt.Sprintf("Clamp of %x", key), Clamp(key), plainClamp(key))
	}
	for seed := range 500 {
		key := row(32, seed)
		same(t, fmt.Sprintf("Clamp of %x", key), Clamp(key), plainClamp(key))
	}
}

// P8.1: each single bit of a key, and each one missing; those of the other 16 bytes don't count.
func TestClampOfSingleBits(t *testing.T) {
	for place := range 256 {
		key := make([]byte, 32)
		key[place/8] = 1 << (place % 8)
		want := make([]byte, 16)
		if place < 128 && !taken(place) {
			want[place/8] = 1 << (place % 8)
		}
		same(t, fmt.Sprint("Clamp of the bit ", place), Clamp(key), want)
		spoil(key)
		same(t, fmt.Sprint("Clamp of all but the bit ", place), Clamp(key), plainClamp(key))
	}
}

// P8.1: clamped once more it stays what it is.
func TestClampTwice(t *testing.T) {
	for _, key := range keys() {
		once := Clamp(key)
		same(t, "Clamp twice", Clamp(keyOf(once, key[16:])), once)
	}
}

// wrongKeys are keys that haven't 32 bytes.
func wrongKeys() [][]byte {
	out := [][]byte{nil, {}, row(5, 1)[:0]}
	for _, n := range []int{100, 128, 255, 256, 1 << 10, 1 << 16} {
		out = append(out, row(n, n))
	}
	for n := range 70 {
		if n != 32 {
			out = append(out, row(n, n), make([]byte, n), full(n))
		}
	}
	return out
}

// P8.1, P8.2: nothing of keys that haven't 32 bytes, whatever the rest is.
func TestWrongKeys(t *testing.T) {
	for _, key := range wrongKeys() {
		if got := Clamp(key); got != nil {
			t.Errorf("Clamp of %d bytes: %x, want nothing", len(key), got)
		}
		for _, b := range [][]byte{nil, {}, {1}, row(16, 1), row(32, 2), row(33, 3), row(200, 4)} {
			if got := Mac(key, b); got != nil {
				t.Errorf("Mac of a key of %d bytes, and %d bytes: %x, want nothing", len(key), len(b), got)
			}
		}
	}
}

// P8.1, P8.2: what lies behind a row in memory doesn't count, neither to a size nor to a sum.
func TestRowsEndWhereTheyEnd(t *testing.T) {
	roomKey, roomB := row(64, 1), row(300, 2)
	same(t, "Clamp", Clamp(roomKey[:32]), plainClamp(bytes.Clone(roomKey[:32])))
	for n := range 100 {
		same(t, "Mac", Mac(roomKey[:32], roomB[:n]), plainMac(bytes.Clone(roomKey[:32]), bytes.Clone(roomB[:n])))
	}
	for _, n := range []int{0, 16, 31, 33} {
		if Clamp(roomKey[:n]) != nil || Mac(roomKey[:n], roomB) != nil {
			t.Errorf("a key of %d bytes with others behind it is taken", n)
		}
	}
}

// P8.2: RFC 8439, 2.5.2 and A.3.
func TestMacOfTheStandard(t *testing.T) {
	ietf := "Any submission to the IETF intended by the Contributor for publication as all or part of an IETF Internet-Draft or RFC and any statement made within the context of an IETF activity is considered an \"IETF Contribution\". " +
		"Such statements include oral statements in IETF sessions, as well as written and electronic communications made at any time or place, which are addressed to"
	toves := "'Twas brillig, and the slithy toves\nDid gyre and gimble in the wabe:\nAll mimsy were the borogoves,\nAnd the mome raths outgrabe."
	none, some := "00000000000000000000000000000000", "36e5f6b5c5e06070f0efca96227a863e"
	one, two, ones := "01000000000000000000000000000000", "02000000000000000000000000000000", "ffffffffffffffffffffffffffffffff"
	for _, c := range []struct{ name, r, s, b, want string }{
		{"2.5.2", "85d6be7857556d337f4452fe42d506a8", "0103808afb0db2fd4abff6af4149f51b", hex.EncodeToString([]byte("Cryptographic Forum Research Group")), "a8061dc1305136c6c22b8baf0c0127a9"},
		{"A.3 #1", none, none, none + none + none + none, none},
		{"A.3 #2", none, some, hex.EncodeToString([]byte(ietf)), some},
		{"A.3 #3", some, none, hex.EncodeToString([]byte(ietf)), "f3477e7cd95417af89a6b8794c310cf0"},
		{"A.3 #4", "1c9240a5eb55d38af333888604f6b5f0", "473917c1402b80099dca5cbc207075c0", hex.EncodeToString([]byte(toves)), "4541669a7eaaee61e708dc7cbcc5eb62"},
		{"A.3 #5", two, none, ones, "03000000000000000000000000000000"},
		{"A.3 #6", two, ones, two, "03000000000000000000000000000000"},
		{"A.3 #7", one, none, ones + "f0ffffffffffffffffffffffffffffff" + "11000000000000000000000000000000", "05000000000000000000000000000000"},
		{"A.3 #8", one, none, ones + "fbfefefefefefefefefefefefefefefe" + "01010101010101010101010101010101", none},
		{"A.3 #9", two, none, "fdffffffffffffffffffffffffffffff", "faffffffffffffffffffffffffffffff"},
		{"A.3 #10", "01000000000000000400000000000000", none, "e33594d7505e43b900000000000000003394d7505e4379cd0100000000000000" + none + one, "14000000000000005500000000000000"},
		{"A.3 #11", "01000000000000000400000000000000", none, "e33594d7505e43b900000000000000003394d7505e4379cd0100000000000000" + none, "13000000000000000000000000000000"},
	} {
		same(t, c.name, Mac(fromHex(t, c.r+c.s), fromHex(t, c.b)), fromHex(t, c.want))
	}
}

// P8.2: what OpenSSL makes of rows of some sizes: without order, and of bytes 255 with a key of bytes 255.
func TestMacOfTheLibrary(t *testing.T) {
	for _, c := range []struct {
		n          int
		some, full string
	}{
		{0, "6d847b39896f5a7d97f1e3b924e2886a", "ffffffffffffffffffffffffffffffff"},
		{1, "d488cf7810eb1463df326ca6871182da", "23feffef23f8ffef23f8ffef23f8ffef"},
		{15, "5a8ed68c2ca33365fb65a969adb8fa9b", "fbff27e6030028e6030028e6030028ee"},
		{16, "8fd772fb2cb0c3df6a4787098f5ea751", "fbffff17faffff17faffff17faffff17"},
		{17, "93e1936996e260e1d5df99c9112366df", "7cfe7ff768f81f2763f8bf565df85f86"},
		{31, "4105c139d2d8151e37c1d00c7cb33d2f", "5400a8ed4800481d4300e84c3d008884"},
		{32, "3f83e4d4eb9572365843278f49d4e99c", "5400801f3f00204f3900c07e330060ae"},
		{33, "1fe0ac86d42ee2e5f081bc54cf19b0a0", "86fa6a437bf4ec24a274504dc37495bc"},
		{1000, "ba53631d7e5b6d1ef78442781cf06181", "de9406b10e7023bcd692ff687f4cbc7f"},
		{100001, "e7e12f5cdcea5539d7d0fdcac05f9b58", "23efebd40dc80124fbdc988d5a24bb7d"},
	} {
		same(t, fmt.Sprintf("Mac of %d bytes", c.n), Mac(row(32, c.n+1), row(c.n, 3)), fromHex(t, c.some))
		same(t, fmt.Sprintf("Mac of %d bytes 255", c.n), Mac(full(32), full(c.n)), fromHex(t, c.full))
	}
}

// P8.2: keys and rows of all kinds, by the promise's words.
func TestMacByItsWords(t *testing.T) {
	for _, key := range keys() {
		for _, n := range sizes() {
			for _, b := range rows(n) {
				isMac(t, key, b)
			}
		}
	}
}

// P8.2: each size up to more than ten pieces, of keys without order and of bytes 255.
func TestMacEachSize(t *testing.T) {
	for _, key := range [][]byte{row(32, 4), full(32), counted()} {
		for n := range 180 {
			isMac(t, key, row(n, 5))
			isMac(t, key, full(n))
			isMac(t, key, make([]byte, n))
		}
	}
}

// P8.2: bytes 255 in all words but some, where carries run far.
func TestMacOfCarries(t *testing.T) {
	for at := range 48 {
		for _, x := range []byte{0, 1, 127, 128, 254} {
			b := full(48)
			b[at] = x
			isMac(t, full(32), b)
			isMac(t, keyOf(fromHex(t, "01000000000000000000000000000000"), full(16)), b)
			clear(b)
			b[at] = ^x
			isMac(t, full(32), b)
		}
	}
}

// P8.2: a piece's end counts: a byte 0 more, or one of bytes 1, makes another number of it.
func TestEndsCount(t *testing.T) {
	key := row(32, 7)
	for n := range 64 {
		b := row(n, 8)
		seen := map[string]int{string(Mac(key, b)): 0}
		for more := range 20 {
			for _, x := range []byte{0, 1} {
				other := append(bytes.Clone(b), bytes.Repeat([]byte{x}, more+1)...)
				isMac(t, key, other)
				if _, ok := seen[string(Mac(key, other))]; ok {
					t.Fatalf("Mac of %d bytes and %d bytes %d more is one that came", n, more+1, x)
				}
				seen[string(Mac(key, other))] = more
			}
		}
	}
}

// targets are sums about 2^64, 2^128, 2^129, the prime and what lies at the ends of words.
func targets() []*big.Int {
	var out []*big.Int
	for n := range 9 {
		out = append(out, big.NewInt(int64(n)))
		out = append(out, plus(prime(), -1-n))
	}
	for _, n := range []int{63, 64, 65, 127, 128, 129} {
		for more := -6; more < 7; more++ {
			out = append(out, plus(power(n), more))
		}
	}
	for _, third := range []int64{1, 2, 3} {
		base := new(big.Int).Mul(big.NewInt(third), power(128))
		for more := -6; more < 7; more++ {
			out = append(out, plus(base, more), plus(new(big.Int).Add(base, power(64)), more))
		}
	}
	return out
}

// rowTo is a row of some pieces whose sum by a key's r, ahead of that with s, is a target.
func rowTo(t *testing.T, key []byte, target *big.Int) []byte {
	t.Helper()
	back := new(big.Int).ModInverse(plainNumber(plainClamp(key)), prime())
	for seed := range 1000 {
		first := row(16*(seed%5), seed)
		last := new(big.Int).Mul(target, back)
		last.Sub(last, plainSum(key, first)).Mod(last, prime())
		// The number of a whole piece has 2^128 in it just once.
		if last.BitLen() == 129 {
			return append(first, plainBytes(last.Sub(last, power(128)))...)
		}
	}
	t.Fatalf("no row was found for the sum %x", target)
	return nil
}

// P8.2: sums at all edges, below the prime and about 2^128, with second halves by which they run over 2^128.
func TestSumsAtEdges(t *testing.T) {
	firsts := [][]byte{full(16), append([]byte{1}, make([]byte, 15)...), append([]byte{2}, make([]byte, 15)...), row(16, 1), row(16, 2)}
	seconds := [][]byte{make([]byte, 16), append([]byte{1}, make([]byte, 15)...), append([]byte{5}, make([]byte, 15)...), full(16),
		append(full(8), make([]byte, 8)...), append(make([]byte, 8), full(8)...), append(make([]byte, 15), 128), row(16, 3)}
	for _, target := range targets() {
		for _, r := range firsts {
			b := rowTo(t, keyOf(r, seconds[0]), target)
			for _, s := range seconds {
				key := keyOf(r, s)
				if sum := plainSum(key, b); sum.Cmp(target) != 0 {
					t.Fatalf("the sum is %x, want %x", sum, target)
				}
				isMac(t, key, b)
			}
		}
	}
}

// P8.2: with r 1 pieces are added alone: sums at and above 2^130 - 5 come back from 0 on.
func TestSumsAboveThePrime(t *testing.T) {
	one := append([]byte{1}, make([]byte, 15)...)
	for more := -20; more < 60; more++ {
		// Three pieces have three times 2^128; the rest up to the prime is the number of one of them and a little.
		left := plus(power(128), -5+more)
		for _, part := range []*big.Int{big.NewInt(100), power(64), power(127), plus(power(127), 77)} {
			other := new(big.Int).Sub(left, part)
			b := slices.Concat(plainBytes(part), plainBytes(other), make([]byte, 16))
			want := new(big.Int).Mod(plus(prime(), more), prime())
			got := Mac(keyOf(one, make([]byte, 16)), b)
			same(t, fmt.Sprintf("Mac of a sum %d above the prime", more), got, plainBytes(want.Mod(want, power(128))))
			for _, s := range halves() {
				isMac(t, keyOf(one, s), b)
			}
		}
	}
}

// P8.2: with r 1 and many pieces of bytes 255 the sum goes over the prime again and again.
func TestManySumsAboveThePrime(t *testing.T) {
	for _, first := range []byte{1, 2, 3, 4, 5} {
		key := keyOf(append([]byte{first}, make([]byte, 15)...), full(16))
		for n := range 70 {
			isMac(t, key, full(16*n))
			isMac(t, key, append(full(16*n), 0))
			isMac(t, key, append(full(16*n), make([]byte, 15)...))
		}
	}
}

// P8.2: the sum with s wraps round at 2^128, with all its carries.
func TestSumsWithTheSecondHalf(t *testing.T) {
	one := append([]byte{1}, make([]byte, 15)...)
	for more := -3; more < 4; more++ {
		for _, n := range []int{0, 1, 8, 63, 64, 65, 100, 127} {
			x := plus(power(127), 12345)
			s := new(big.Int).Sub(plus(power(128), more), x)
			// A piece's own 2^128 is gone in the rest by 2^128.
			got := Mac(keyOf(one, plainBytes(s)), plainBytes(x))
			want := new(big.Int).Mod(plus(power(128), more), power(128))
			same(t, fmt.Sprintf("Mac of a sum with s %d above 2^128", more), got, plainBytes(want))
			s = new(big.Int).Mod(plus(power(n), more), power(128))
			isMac(t, keyOf(one, plainBytes(s)), full(16))
			isMac(t, keyOf(full(16), plainBytes(s)), full(16))
		}
	}
}

// P8.2: each bit of a row, of s, and of what Clamp leaves of the key counts.
func TestEachBitCounts(t *testing.T) {
	key, b := row(32, 1), row(50, 2)
	first := Mac(key, b)
	differs := func(name string, place int, key, b []byte) {
		t.Helper()
		isMac(t, key, b)
		if bytes.Equal(Mac(key, b), first) {
			t.Errorf("bit %d of the %s doesn't count", place, name)
		}
	}
	for place := range 8 * len(b) {
		other := bytes.Clone(b)
		other[place/8] ^= 1 << (place % 8)
		differs("row", place, key, other)
	}
	for place := range 256 {
		if place < 128 && taken(place) {
			continue
		}
		other := bytes.Clone(key)
		other[place/8] ^= 1 << (place % 8)
		differs("key", place, other, b)
	}
}

// P8.2: Mac has 16 bytes, also where the highest of them are 0.
func TestSixteenBytes(t *testing.T) {
	for _, n := range sizes() {
		for _, key := range [][]byte{make([]byte, 32), full(32), counted()} {
			if got := Mac(key, make([]byte, n)); len(got) != 16 {
				t.Errorf("Mac has %d bytes", len(got))
			}
			if got := Clamp(key); len(got) != 16 {
				t.Errorf("Clamp has %d bytes", len(got))
			}
		}
	}
}

// P8.3: of nothing it is s; nil and no bytes are one.
func TestMacOfNothing(t *testing.T) {
	for _, key := range keys() {
		for _, b := range [][]byte{nil, {}, row(40, 1)[:0]} {
			same(t, "Mac of nothing", Mac(key, b), key[16:])
		}
	}
}

// P8.3: with r 0 it is s, also where all bits that Clamp takes away are there.
func TestMacWithRNought(t *testing.T) {
	gone := full(16)
	for i, x := range plainClamp(full(32)) {
		gone[i] ^= x
	}
	for _, r := range [][]byte{make([]byte, 16), gone} {
		for _, s := range halves() {
			for _, n := range append(sizes(), 5000) {
				for _, b := range rows(n) {
					same(t, fmt.Sprintf("Mac of %d bytes with r 0", n), Mac(keyOf(r, s), b), s)
				}
			}
		}
	}
}

// P8.3: bits of the key that Clamp takes away change nothing, one by one and all at once.
func TestTakenBitsChangeNothing(t *testing.T) {
	for _, key := range keys() {
		b := row(70, int(key[0]))
		mac, clamped, all := Mac(key, b), Clamp(key), bytes.Clone(key)
		for place := range 128 {
			if !taken(place) {
				continue
			}
			other := bytes.Clone(key)
			other[place/8] ^= 1 << (place % 8)
			all[place/8] ^= 1 << (place % 8)
			same(t, fmt.Sprint("Clamp with another bit ", place), Clamp(other), clamped)
			same(t, fmt.Sprint("Mac with another bit ", place), Mac(other, b), mac)
		}
		same(t, "Clamp with all of them turned", Clamp(all), clamped)
		same(t, "Mac with all of them turned", Mac(all, b), mac)
		same(t, "Mac with a clamped key", Mac(keyOf(clamped, key[16:]), b), mac)
	}
}

// plainOf is the number of three words.
func plainOf(a number) *big.Int {
	out := new(big.Int)
	for i := range a {
		out.Add(out, new(big.Int).Lsh(new(big.Int).SetUint64(a[i]), uint(64*i)))
	}
	return out
}

// P8.2: the steps keep to the bounds that they count on, with the greatest numbers and with others.
func TestBoundsOfSteps(t *testing.T) {
	bound := new(big.Int).Add(power(130), power(128))
	for _, edge := range []uint64{0, 1, 4, 5, 1<<63 - 1, 1 << 63, 1<<64 - 6, 1<<64 - 5, 1<<64 - 4, 1<<64 - 1} {
		for _, middle := range []uint64{0, 1, 1 << 63, 1<<64 - 1} {
			for top := range uint64(8) {
				a := number{edge, middle, top}
				x := plainOf(a)
				for _, half := range halves() {
					r := numberOf(plainClamp(keyOf(half, half)))
					got := plainOf(a.times(r))
					differ := new(big.Int).Sub(got, new(big.Int).Mul(x, plainOf(r)))
					if got.Cmp(bound) >= 0 || differ.Mod(differ, prime()).Sign() != 0 {
						t.Fatalf("%x times %x: %x", a, r, got)
					}
				}
				if got := plainOf(a.rest()); x.Cmp(bound) < 0 && got.Cmp(new(big.Int).Mod(x, prime())) != 0 {
					t.Fatalf("the rest of %x: %x", a, got)
				}
			}
		}
	}
}

// calls are the calls that answer bytes.
func calls() map[string]func(key, b []byte) []byte {
	return map[string]func(key, b []byte) []byte{
		"Mac":   Mac,
		"Clamp": func(key, _ []byte) []byte { return Clamp(key) },
	}
}

// P8.1, P8.2: answers are new memory, and arguments stay as they were, also those that are refused.
func TestNewMemory(t *testing.T) {
	for name, call := range calls() {
		for _, keySize := range []int{0, 31, 32, 33} {
			for _, n := range []int{0, 1, 15, 16, 17, 200} {
				newMemory(t, name, call, keySize, n)
			}
		}
	}
}

func newMemory(t *testing.T, name string, call func(key, b []byte) []byte, keySize, n int) {
	t.Helper()
	rooms := [2][]byte{row(96, 1), row(400, 2)}
	before := [2][]byte{row(96, 1), row(400, 2)}
	ask := func() []byte { return call(rooms[0][:keySize], rooms[1][:n]) }
	first := ask()
	kept := bytes.Clone(first)
	second := ask()
	spoil(first)
	for i, room := range rooms {
		same(t, fmt.Sprintf("%s: argument %d", name, i), room, before[i])
	}
	same(t, name+": another answer", second, kept)
	for _, room := range rooms {
		spoil(room)
	}
	same(t, name+": an answer, when arguments change", second, kept)
}

// P8.2: key and row may lie over each other.
func TestSharedArguments(t *testing.T) {
	room := row(200, 6)
	before := bytes.Clone(room)
	for off := range 60 {
		key, b := room[off:off+32], room[off/2:off/2+100]
		want := plainMac(bytes.Clone(key), bytes.Clone(b))
		same(t, "Mac of rows over each other", Mac(key, b), want)
		same(t, "Mac of a key and itself", Mac(key, key), plainMac(key, bytes.Clone(key)))
		same(t, "what was handed in", room, before)
	}
}

// Rule 4: the same calls have the same answers, whatever was asked between.
func TestAgain(t *testing.T) {
	for name, call := range calls() {
		key, b := row(32, 1), row(150, 3)
		first := call(key, b)
		for _, other := range wrongKeys() {
			call(other, b)
		}
		for seed := range 20 {
			call(row(32, seed), row(seed, seed))
		}
		same(t, name+" again", call(key, b), first)
	}
}

// FuzzPoly holds Mac and Clamp of any rows to the promises' words.
func FuzzPoly(f *testing.F) {
	f.Add(make([]byte, 32), make([]byte, 64))
	f.Add(full(32), full(49))
	f.Add(row(31, 1), row(3, 1))
	f.Add(row(32, 1), row(33, 1))
	f.Fuzz(func(t *testing.T, key, b []byte) {
		mac, clamped := Mac(key, b), Clamp(key)
		if len(key) != 32 {
			if mac != nil || clamped != nil {
				t.Fatalf("a key of %d bytes: %x, %x", len(key), mac, clamped)
			}
			return
		}
		same(t, "Mac", mac, plainMac(key, b))
		same(t, "Clamp", clamped, plainClamp(key))
	})
}

// BenchmarkMac tells what a datagram of the greatest size costs.
func BenchmarkMac(b *testing.B) {
	key, data := row(32, 1), row(1200, 3)
	b.SetBytes(int64(len(data)))
	for range b.N {
		Mac(key, data)
	}
}
