package sample

import (
	"bytes"
	"crypto/mlkem"
	"crypto/sha3"
	"math"
	"strconv"
	"testing"

	"redan/api"
	"redan/ntt"
)

// q is the number of the chapter, not the program's own.
const q = 3329

// rest says the chapter's word: from 0 to q - 1, also of a number below 0.
func rest(x int) int { return (x%q + q) % q }

// same fails unless a polynomial is the right one.
func same(t *testing.T, got, want api.Poly, name string, of ...any) {
	for i := range got {
		if got[i] != want[i] {
			t.Helper()
			t.Fatalf("%s %v: %d at %d, want %d", name, of, got[i], i, want[i])
		}
	}
}

// right fails unless a polynomial is the right one, and there is no error.
func right(t *testing.T, got api.Poly, e api.Errno, want api.Poly, name string, of ...any) {
	t.Helper()
	if e != api.OK {
		t.Fatalf("%s %v: error %d", name, of, int(e))
	}
	same(t, got, want, name, of...)
}

// refused fails unless the error is ErrArg, with noughts beside it.
func refused(t *testing.T, got api.Poly, e api.Errno, name string, of ...any) {
	t.Helper()
	if e != api.ErrArg {
		t.Fatalf("%s %v: error %d, want 1", name, of, int(e))
	}
	same(t, got, api.Poly{}, name, of...)
}

// sameBytes fails unless bytes are the right ones.
func sameBytes(t *testing.T, got, want []byte, name string, of ...any) {
	if !bytes.Equal(got, want) {
		t.Helper()
		t.Fatalf("%s %v: %x, want %x", name, of, got, want)
	}
}

// alone is the polynomial with one coefficient, at one place.
func alone(place, c int) api.Poly {
	var out api.Poly
	out[place] = c
	return out
}

// full is the polynomial with one number at all places.
func full(c int) api.Poly {
	var out api.Poly
	for i := range out {
		out[i] = c
	}
	return out
}

// wild is a polynomial without order, of all an int's bits.
func wild(seed int) api.Poly {
	var out api.Poly
	x := uint64(seed)*2654435761 + 12345
	for i := range out {
		x = x*6364136223846793005 + 1442695040888963407
		out[i] = int(x ^ x>>29)
	}
	return out
}

// edges are the numbers that are hardest to take the rest of: about 0, q, powers of 2, and an int's ends.
func edges() []int {
	out := []int{
		0, 1, -1, 2, -2, q - 2, q - 1, q, q + 1, q + 2, -q + 1, -q, -q - 1, 2*q - 1, 2 * q, -2 * q, 7*q + 5, -7*q - 5, 832, 833, 1664, 1665, 2496, 2497,
		q * q, -q * q, math.MaxInt32, math.MinInt32, math.MaxInt, math.MaxInt - 1, math.MaxInt / 2, math.MinInt, math.MinInt + 1, math.MinInt / 2,
	}
	for d := range 14 {
		out = append(out, 1<<d-1, 1<<d, 1<<d+1, -1<<d)
	}
	return out
}

// mixed is a polynomial of edges, each place with another one.
func mixed(turn int) api.Poly {
	e := edges()
	var out api.Poly
	for i := range out {
		out[i] = e[(i*(2*turn+1)+turn)%len(e)]
	}
	return out
}

// counted is the polynomial with each place's number at it, times a factor.
func counted(factor int) api.Poly {
	var out api.Poly
	for i := range out {
		out[i] = i * factor
	}
	return out
}

// polys are polynomials of all these kinds.
func polys() []api.Poly {
	out := []api.Poly{{}, counted(1), counted(13), counted(-17)}
	for _, c := range edges() {
		out = append(out, full(c))
	}
	for k := range 8 {
		out = append(out, mixed(k), wild(k))
	}
	return out
}

// row is n times one byte.
func row(n int, c byte) []byte { return bytes.Repeat([]byte{c}, n) }

// mess are n bytes without order.
func mess(seed string, n int) []byte { return sha3.SumSHAKE256([]byte(seed), n) }

// rows are rows of n bytes of all kinds.
func rows(n int) [][]byte {
	out := [][]byte{row(n, 0), row(n, 255), row(n, 1), row(n, 3), row(n, 128), row(n, 0x55), row(n, 0xaa), row(n, 0x0f)}
	for k := range 8 {
		out = append(out, mess(strconv.Itoa(k), n))
	}
	return out
}

// outside are counts that are below and above all bounds.
func outside(bound int) []int {
	return []int{
		0, -1, -2, -bound, -32, bound + 1, bound + 2, 16, 64, 1 << 31, 1 << 57, 1 << 58, 1<<58 + 1, 1 << 59, 1<<59 + 2,
		math.MaxInt32, math.MinInt32, math.MaxInt, math.MinInt, math.MinInt + 1, math.MinInt + 2,
	}
}

// plainBits says the chapter's word: all bits of bytes, in order.
func plainBits(b []byte) []int {
	out := make([]int, 8*len(b))
	for i := range b {
		power := 1
		for j := range 8 {
			out[8*i+j] = int(b[i]) / power % 2
			power *= 2
		}
	}
	return out
}

// plainNumbers says the words of P12.1: two numbers of each three bytes.
func plainNumbers(b []byte) []int {
	var out []int
	for ; len(b) >= 3; b = b[3:] {
		c0, c1, c2 := int(b[0]), int(b[1]), int(b[2])
		out = append(out, c0+256*(c1%16), c1/16+16*c2)
	}
	return out
}

// plainChosen says the words of P12.1, of bytes; and how many numbers it went through.
func plainChosen(b []byte) (api.Poly, int) {
	var out api.Poly
	count := 0
	for i, x := range plainNumbers(b) {
		if count == 256 {
			return out, i
		}
		if x < q {
			out[count] = x
			count++
		}
	}
	return out, len(b) / 3 * 2
}

// plainNoise says the words of P12.2.
func plainNoise(eta int, b []byte) api.Poly {
	bits := plainBits(b)
	var out api.Poly
	for i := range out {
		for j := 2 * i * eta; j < 2*i*eta+eta; j++ {
			out[i] += bits[j] - bits[j+eta]
		}
		out[i] = rest(out[i])
	}
	return out
}

// plainPack says the words of P12.3, bit by bit.
func plainPack(d int, p api.Poly) []byte {
	out := make([]byte, 32*d)
	for i := range p {
		x := rest(p[i])
		if d < 12 {
			x %= 1 << d
		}
		for j := range d {
			at := d*i + j
			out[at/8] += byte(x % 2 << (at % 8))
			x /= 2
		}
	}
	return out
}

// plainUnpack says the words of P12.3.
func plainUnpack(d int, b []byte) api.Poly {
	bits := plainBits(b)
	var out api.Poly
	for i := range out {
		for j := range d {
			out[i] += bits[d*i+j] << j
		}
		if d == 12 {
			out[i] %= q
		}
	}
	return out
}

// plainCompress and plainDecompress say the words of P10.3, upon which P12.4 stands.
func plainCompress(d, x int) int {
	if d < 1 || d > 11 {
		return 0
	}
	return (2<<d*rest(x) + q) / (2 * q) % (1 << d)
}

func plainDecompress(d, y int) int {
	if d < 1 || d > 11 {
		return 0
	}
	two := 1 << d
	return (2*q*((y%two+two)%two) + two) / (2 * two)
}

// each is a polynomial of what is made of each coefficient.
func each(p api.Poly, make func(x int) int) api.Poly {
	for i := range p {
		p[i] = make(p[i])
	}
	return p
}

// P12.2, P12.3: the chapter's examples.
func TestExamples(t *testing.T) {
	var noise, ones api.Poly
	for i := range 128 {
		noise[2*i] = 2
	}
	for i := range 32 {
		ones[8*i] = 1
	}
	p, e := Noise(2, row(128, 3))
	right(t, p, e, noise, "Noise of 2 and 128 bytes 3")
	p, e = Unpack(1, row(32, 1))
	right(t, p, e, ones, "Unpack of 1 and 32 bytes 1")
}

// seeds are those that are empty, short, long, about a block of 168 bytes, and of the sizes that the KEM uses.
func seeds() [][]byte {
	out := [][]byte{nil, {}, {0}, {255}, []byte("seed"), row(32, 0), row(34, 0), row(34, 255)}
	for _, n := range []int{31, 32, 33, 34, 35, 135, 136, 137, 167, 168, 169, 335, 336, 337, 1000, 100000} {
		out = append(out, mess("seed", n))
	}
	return out
}

// P12.1: seeds of all sizes.
func TestUniform(t *testing.T) {
	for _, seed := range seeds() {
		want, _ := plainChosen(sha3.SumSHAKE128(seed, 4032))
		same(t, Uniform(seed), want, "Uniform of a seed of", len(seed))
	}
	for k := range 500 {
		seed := mess("uniform "+strconv.Itoa(k), k%70)
		want, _ := plainChosen(sha3.SumSHAKE128(seed, 4032))
		same(t, Uniform(seed), want, "Uniform of", seed)
	}
}

// P12.1: said by hand, of SHAKE128 of nothing: 7f 9c 2b a4 e8 8f are c7f, 2b9, 8a4, 8fe, all below d01.
func TestUniformByHand(t *testing.T) {
	p := Uniform(nil)
	if p[0] != 0xc7f || p[1] != 0x2b9 || p[2] != 0x8a4 || p[3] != 0x8fe {
		t.Fatalf("Uniform of nothing begins with %x, want c7f 2b9 8a4 8fe", p[:4])
	}
}

// P12.1: among the numbers drawn are q - 1, q and q + 1, as the first and as the second of three bytes.
func TestUniformAboutQ(t *testing.T) {
	seen := map[[2]int]int{}
	for k := 0; k < 3000; k++ {
		seed := []byte("about q " + strconv.Itoa(k))
		b := sha3.SumSHAKE128(seed, 4032)
		want, used := plainChosen(b)
		near := false
		for i, x := range plainNumbers(b)[:used] {
			if x >= q-1 && x <= q+1 || x == 4095 || x == 0 {
				seen[[2]int{x, i % 2}]++
				near = true
			}
		}
		if near {
			same(t, Uniform(seed), want, "Uniform of", string(seed))
		}
	}
	for _, x := range []int{0, q - 1, q, q + 1, 4095} {
		for i := range 2 {
			if seen[[2]int{x, i}] == 0 {
				t.Fatalf("no seed drew %d at %d", x, i)
			}
		}
	}
}

// P12.1: a polynomial that is full after the first number of three bytes, and one after the second.
func TestUniformEndsWithinThreeBytes(t *testing.T) {
	var seen [2]int
	for k := range 60 {
		seed := []byte("ends " + strconv.Itoa(k))
		want, used := plainChosen(sha3.SumSHAKE128(seed, 4032))
		seen[used%2]++
		same(t, Uniform(seed), want, "Uniform of", string(seed))
	}
	if seen[0] == 0 || seen[1] == 0 {
		t.Fatalf("ends: %v", seen)
	}
}

// of reads a row from its beginning on; behind it come bytes 1, which are numbers below q.
func of(b []byte) func(n int) []byte {
	b = append(bytes.Clone(b), row(1000, 1)...)
	return func(n int) []byte {
		out := b[:n]
		b = b[n:]
		return out
	}
}

// laid are 4032 bytes: some of a row's, from a place on, among bytes 255.
func laid(place int, b ...byte) []byte {
	out := row(4032, 255)
	copy(out[place:], b)
	return out
}

// P12.1: bytes that hardly a seed gives: numbers that are too few, none, or the last ones; no byte behind the 4032 counts.
func TestTooFewNumbers(t *testing.T) {
	same(t, chosen(of(row(4032, 255))), api.Poly{}, "of bytes 255")
	same(t, chosen(of(row(4032, 0))), api.Poly{}, "of bytes 0")
	same(t, chosen(of(laid(4029, 5, 0, 0))), api.Poly{5, 0}, "of the last three bytes")
	same(t, chosen(of(laid(4029, 1, 0x1d, 0xd0))), api.Poly{}, "of q twice in the last three bytes")
	same(t, chosen(of(laid(4029, 0, 0x0d, 0xd0))), api.Poly{3328, 3328}, "of q - 1 twice in the last three bytes")
	same(t, chosen(of(laid(0, 7, 0xf0, 255))), api.Poly{7}, "of the first two bytes")
	for _, n := range []int{381, 382, 383, 384, 385, 386, 387, 768} {
		for _, c := range []byte{1, 0x77, 0xcc} {
			b := laid(4032-n, row(n, c)...)
			want, _ := plainChosen(b)
			same(t, chosen(of(b)), want, "of bytes", c, n)
			b = laid(0, row(n, c)...)
			want, _ = plainChosen(b)
			same(t, chosen(of(b)), want, "of bytes ahead", c, n)
		}
	}
}

// P12.1: all answers are rests.
func TestUniformIsRests(t *testing.T) {
	for _, seed := range seeds() {
		p := Uniform(seed)
		same(t, p, each(p, rest), "Uniform", len(seed))
	}
}

// P12.2: rows of all kinds.
func TestNoise(t *testing.T) {
	for eta := 1; eta <= 3; eta++ {
		for _, b := range rows(64 * eta) {
			p, e := Noise(eta, b)
			right(t, p, e, plainNoise(eta, b), "Noise", eta, b)
		}
		for k := range 200 {
			b := mess("noise "+strconv.Itoa(k), 64*eta)
			p, e := Noise(eta, b)
			right(t, p, e, plainNoise(eta, b), "Noise", eta, b)
		}
	}
}

// P12.2: one bit alone, at each place: it counts for its coefficient, as 1, or as q - 1.
func TestNoiseOfOneBit(t *testing.T) {
	for eta := 1; eta <= 3; eta++ {
		for place := range 512 * eta {
			b := make([]byte, 64*eta)
			b[place/8] = 1 << (place % 8)
			want := alone(place/(2*eta), 1)
			if place/eta%2 == 1 {
				want = alone(place/(2*eta), q-1)
			}
			p, e := Noise(eta, b)
			right(t, p, e, want, "Noise of one bit", eta, place)
		}
	}
}

// P12.2: said by hand: the greatest and the smallest coefficients, and none of bytes 0 and 255.
func TestNoiseByHand(t *testing.T) {
	for eta := 1; eta <= 3; eta++ {
		p, e := Noise(eta, row(64*eta, 0))
		right(t, p, e, api.Poly{}, "Noise of 0", eta)
		p, e = Noise(eta, row(64*eta, 255))
		right(t, p, e, api.Poly{}, "Noise of 255", eta)
	}
	p, e := Noise(1, row(64, 0x55))
	right(t, p, e, full(1), "Noise of 1 and bytes 55")
	p, e = Noise(1, row(64, 0xaa))
	right(t, p, e, full(q-1), "Noise of 1 and bytes aa")
	p, e = Noise(2, row(128, 0x33))
	right(t, p, e, full(2), "Noise of 2 and bytes 33")
	p, e = Noise(2, row(128, 0xcc))
	right(t, p, e, full(q-2), "Noise of 2 and bytes cc")
	p, e = Noise(3, bytes.Repeat([]byte{0xc7, 0x71, 0x1c}, 64))
	right(t, p, e, full(3), "Noise of 3 and 111000")
	p, e = Noise(3, bytes.Repeat([]byte{0x38, 0x8e, 0xe3}, 64))
	right(t, p, e, full(q-3), "Noise of 3 and 000111")
}

// P12.2: eta below and above its bounds, whatever the bytes; bytes too few and too many.
func TestNoiseRefused(t *testing.T) {
	for _, eta := range outside(3) {
		for _, n := range []int{0, 1, 64, 128, 192, 256, 64 * 16} {
			p, e := Noise(eta, row(n, 1))
			refused(t, p, e, "Noise", eta, n)
		}
	}
	for eta := 1; eta <= 3; eta++ {
		for _, n := range []int{0, 1, 63, 64, 65, 64*eta - 1, 64*eta + 1, 64*eta - 64, 64*eta + 64, 127, 128, 129, 192, 256, 4096} {
			if n != 64*eta {
				p, e := Noise(eta, row(n, 1))
				refused(t, p, e, "Noise", eta, n)
			}
		}
		p, e := Noise(eta, nil)
		refused(t, p, e, "Noise of nil", eta)
	}
}

// P12.2: seeds of all sizes, each number.
func TestPrf(t *testing.T) {
	for eta := 1; eta <= 3; eta++ {
		for k, seed := range seeds() {
			for _, n := range []byte{0, 1, byte(k), 127, 128, 255} {
				stream := sha3.SumSHAKE256(append(bytes.Clone(seed), n), 64*eta)
				p, e := Prf(eta, seed, n)
				right(t, p, e, plainNoise(eta, stream), "Prf", eta, len(seed), n)
			}
		}
		for n := range 256 {
			seed := mess("prf", 32)
			stream := sha3.SumSHAKE256(append(bytes.Clone(seed), byte(n)), 64*eta)
			p, e := Prf(eta, seed, byte(n))
			right(t, p, e, plainNoise(eta, stream), "Prf", eta, n)
		}
	}
}

// P12.2: eta below and above its bounds, the greatest ones too.
func TestPrfRefused(t *testing.T) {
	for _, eta := range outside(3) {
		for _, seed := range [][]byte{nil, {}, row(32, 7)} {
			p, e := Prf(eta, seed, 1)
			refused(t, p, e, "Prf", eta, seed)
		}
	}
}

// P12.3: polynomials of all kinds, each d.
func TestPack(t *testing.T) {
	for d := 1; d <= 12; d++ {
		for k, p := range polys() {
			sameBytes(t, Pack(d, p), plainPack(d, p), "Pack", d, k)
		}
	}
}

// P12.3: one coefficient alone at each place, and of it each bit alone.
func TestPackAtEachPlace(t *testing.T) {
	for d := 1; d <= 12; d++ {
		for place := range 256 {
			for j := range 12 {
				want := make([]byte, 32*d)
				if at := d*place + j; j < d {
					want[at/8] = 1 << (at % 8)
				}
				sameBytes(t, Pack(d, alone(place, 1<<j)), want, "Pack of one bit", d, place, j)
			}
			for _, c := range edges() {
				p := alone(place, c)
				sameBytes(t, Pack(d, p), plainPack(d, p), "Pack", d, place, c)
			}
		}
	}
}

// P12.3: said by hand: by q first, by 2^d then.
func TestPackByHand(t *testing.T) {
	sameBytes(t, Pack(12, api.Poly{0xabc, 0x123})[:4], []byte{0xbc, 0x3a, 0x12, 0}, "Pack of 12 and abc, 123")
	sameBytes(t, Pack(12, api.Poly{q, q - 1})[:4], []byte{0, 0, 0xd0, 0}, "Pack of 12 and q, q - 1")
	sameBytes(t, Pack(12, api.Poly{-1, 4095})[:4], []byte{0, 0xed, 0x2f, 0}, "Pack of 12 and -1, 4095")
	sameBytes(t, Pack(1, api.Poly{q, q + 1, -1, -2, 1, 2, 3, 4}), append([]byte{0b01011010}, make([]byte, 31)...), "Pack of 1")
	sameBytes(t, Pack(8, api.Poly{q + 5, 300, -1})[:4], []byte{5, 44, 0, 0}, "Pack of 8")
	sameBytes(t, Pack(10, api.Poly{1023, 0, 1023, 0})[:6], []byte{0xff, 3, 0xf0, 0x3f, 0, 0}, "Pack of 10")
	sameBytes(t, Pack(4, full(-1)), row(128, 0), "Pack of 4 and 3328")
	sameBytes(t, Pack(11, full(2047)), row(352, 255), "Pack of 11 and 2047")
}

// P12.3: d below and above its bounds.
func TestPackOfNoBits(t *testing.T) {
	for _, d := range append(outside(12), 13, 14, 15) {
		for _, p := range []api.Poly{{}, full(1), wild(1)} {
			if got := Pack(d, p); len(got) != 0 {
				t.Fatalf("Pack of %d: %d bytes, want none", d, len(got))
			}
		}
	}
}

// P12.3: rows of all kinds, each d; of d 12 numbers from q on too.
func TestUnpack(t *testing.T) {
	for d := 1; d <= 12; d++ {
		for _, b := range rows(32 * d) {
			p, e := Unpack(d, b)
			right(t, p, e, plainUnpack(d, b), "Unpack", d, b)
		}
	}
}

// P12.3: one bit alone, at each place.
func TestUnpackOfOneBit(t *testing.T) {
	for d := 1; d <= 12; d++ {
		for place := range 256 * d {
			b := make([]byte, 32*d)
			b[place/8] = 1 << (place % 8)
			p, e := Unpack(d, b)
			right(t, p, e, alone(place/d, 1<<(place%d)), "Unpack of one bit", d, place)
		}
	}
}

// P12.3: said by hand: each number of 12 bits is its rest, all others are as they are.
func TestUnpackByHand(t *testing.T) {
	for x := range 4096 {
		b := bytes.Repeat([]byte{byte(x), byte(x>>8 | x<<4), byte(x >> 4)}, 128)
		p, e := Unpack(12, b)
		right(t, p, e, full(x%q), "Unpack of 12 and the number", x)
	}
	for d := 1; d <= 11; d++ {
		p, e := Unpack(d, row(32*d, 255))
		right(t, p, e, full(1<<d-1), "Unpack of bytes 255", d)
	}
	for x := range 256 {
		p, e := Unpack(8, row(256, byte(x)))
		right(t, p, e, full(x), "Unpack of 8 and bytes", x)
	}
}

// P12.3: d below and above its bounds; bytes one too few, one too many, none.
func TestUnpackRefused(t *testing.T) {
	for _, d := range append(outside(12), 13, 14, 15) {
		for _, n := range []int{0, 1, 32, 384, 416, 448, 512} {
			p, e := Unpack(d, row(n, 1))
			refused(t, p, e, "Unpack", d, n)
		}
	}
	for d := 1; d <= 12; d++ {
		for _, n := range []int{0, 1, 31, 32*d - 1, 32*d + 1, 32*d - 32, 32*d + 32, 64 * d, 5000} {
			p, e := Unpack(d, row(n, 1))
			refused(t, p, e, "Unpack", d, n)
		}
		p, e := Unpack(d, nil)
		refused(t, p, e, "Unpack of nil", d)
	}
}

// P12.4: polynomials of all kinds, each d, also those of which there is nothing.
func TestSqueezeAndSpread(t *testing.T) {
	ds := outside(11)
	for d := 1; d <= 11; d++ {
		ds = append(ds, d)
	}
	for _, d := range ds {
		for k, p := range polys() {
			same(t, Squeeze(d, p), each(p, func(x int) int { return plainCompress(d, x) }), "Squeeze", d, k)
			same(t, Spread(d, p), each(p, func(x int) int { return plainDecompress(d, x) }), "Spread", d, k)
		}
	}
}

// P12.4: one coefficient alone, at each place.
func TestSqueezeAndSpreadAtEachPlace(t *testing.T) {
	for d := 1; d <= 11; d++ {
		for place := range 256 {
			for _, c := range []int{1, -1, 1664, 1665, q, q + 1000, math.MaxInt, math.MinInt, math.MinInt + 1} {
				same(t, Squeeze(d, alone(place, c)), alone(place, plainCompress(d, c)), "Squeeze", d, place, c)
				same(t, Spread(d, alone(place, c)), alone(place, plainDecompress(d, c)), "Spread", d, place, c)
			}
		}
	}
}

// P12.4: said by hand.
func TestSqueezeAndSpreadByHand(t *testing.T) {
	same(t, Squeeze(1, api.Poly{832, 833, 2496, 2497, -1}), api.Poly{0, 1, 1, 0, 0}, "Squeeze of 1")
	same(t, Spread(1, api.Poly{0, 1, 2, 3, -1}), api.Poly{0, 1665, 0, 1665, 1665}, "Spread of 1")
	for _, d := range []int{0, 12, -1, 13} {
		same(t, Squeeze(d, full(1665)), api.Poly{}, "Squeeze", d)
		same(t, Spread(d, full(1)), api.Poly{}, "Spread", d)
	}
}

// P12.5: Unpack of Pack is the rests, of d below 12 by 2^d.
func TestUnpackOfPack(t *testing.T) {
	for d := 1; d <= 12; d++ {
		for k, p := range polys() {
			want := each(p, rest)
			if d < 12 {
				want = each(want, func(x int) int { return x % (1 << d) })
			}
			got, e := Unpack(d, Pack(d, p))
			right(t, got, e, want, "Unpack of Pack", d, k)
		}
	}
}

// P12.5: Pack of Unpack is the same bytes, but of d 12 where a number is from q on.
func TestPackOfUnpack(t *testing.T) {
	for d := 1; d <= 12; d++ {
		for _, b := range rows(32 * d) {
			small := true
			for _, x := range plainNumbers(b) {
				small = small && x < q
			}
			if p, _ := Unpack(d, b); d < 12 || small {
				sameBytes(t, Pack(d, p), b, "Pack of Unpack", d)
			} else if bytes.Equal(Pack(d, p), b) {
				t.Fatalf("Pack of Unpack of 12 is the same with a number from q on: %x", b)
			}
		}
	}
	for place := range 256 {
		b := plainPack(12, alone(place, q-1))
		p, _ := Unpack(12, b)
		sameBytes(t, Pack(12, p), b, "Pack of Unpack of q - 1 at", place)
	}
}

// P12.5: Squeeze of Spread is the same, of each number below 2^d.
func TestSqueezeOfSpread(t *testing.T) {
	for d := 1; d <= 11; d++ {
		for start := 0; start < 1<<d; start += 256 {
			p := each(counted(1), func(x int) int { return (start + x) % (1 << d) })
			same(t, Squeeze(d, Spread(d, p)), p, "Squeeze of Spread", d, start)
		}
	}
}

// P12.1 to P12.4: what is handed in is left as it was, and the same calls have the same answers, in new memory.
func TestNothingIsChangedOrKept(t *testing.T) {
	seed := append(mess("kept", 128), 9, 9, 9)[:128]
	before := bytes.Clone(seed[:131])
	uniform := Uniform(seed)
	noise, _ := Noise(2, seed)
	prf, _ := Prf(3, seed, 5)
	unpacked, _ := Unpack(4, seed)
	packed := Pack(4, unpacked)
	sameBytes(t, seed[:131], before, "what was handed in")
	again := Pack(4, unpacked)
	for i := range packed {
		packed[i] ^= 255
	}
	sameBytes(t, again, before[:128], "Pack, after another answer was changed")
	for i := range seed {
		seed[i] ^= 255
	}
	seed = before[:128]
	same(t, Uniform(seed), uniform, "Uniform again")
	p, e := Noise(2, seed)
	right(t, p, e, noise, "Noise again")
	p, e = Prf(3, seed, 5)
	right(t, p, e, prf, "Prf again")
	p, e = Unpack(4, seed)
	right(t, p, e, unpacked, "Unpack again")
	sameBytes(t, Pack(4, unpacked), seed, "Pack again")
}

// P12.1 to P12.3: what the standard says a KEM's public key is (FIPS 203, algorithm 13), against the library's.
func TestPublicKeyOfTheStandard(t *testing.T) {
	for k := range 20 {
		seed := mess("standard "+strconv.Itoa(k), 64)
		key, err := mlkem.NewDecapsulationKey768(seed)
		if err != nil {
			t.Fatal(err)
		}
		both := sha3.Sum512(append(bytes.Clone(seed[:32]), 3))
		rho, sigma := both[:32], both[32:]
		var got []byte
		for i := range 3 {
			small, _ := Prf(2, sigma, byte(3+i))
			sum := ntt.Forward(small)
			for j := range 3 {
				secret, _ := Prf(2, sigma, byte(j))
				cell := Uniform(append(bytes.Clone(rho), byte(j), byte(i)))
				sum = ntt.Plus(sum, ntt.Times(cell, ntt.Forward(secret)))
			}
			got = append(got, Pack(12, sum)...)
		}
		sameBytes(t, append(got, rho...), key.EncapsulationKey().Bytes(), "a public key", k)
	}
}
