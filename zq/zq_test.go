package zq

import (
	"math"
	"math/big"
	"slices"
	"testing"
)

// q is the number of the chapter, not the program's own.
const q = 3329

// inside tells whether a number is a rest.
func inside(x int) bool { return x >= 0 && x < q }

// number is an int as a number.
func number(x int) *big.Int { return big.NewInt(int64(x)) }

// plainRest says the chapter's word, of a number however great.
func plainRest(x *big.Int) int { return int(new(big.Int).Mod(x, number(q)).Int64()) }

// is fails unless a number is the right one.
func is(t *testing.T, got, want int, name string, of ...int) {
	if got != want {
		t.Helper()
		t.Fatalf("%s of %d: %d, want %d", name, of, got, want)
	}
}

// wild are n numbers without order, of all an int's bits.
func wild(n int) []int {
	out := make([]int, n)
	x := uint64(n)*2654435761 + 12345
	for i := range out {
		x = x*6364136223846793005 + 1442695040888963407
		out[i] = int(x ^ x>>29)
	}
	return out
}

// about are the numbers from x - n to x + n, but those beyond an int.
func about(x, n int) []int {
	var out []int
	for k := -n; k <= n; k++ {
		if y := x + k; (k >= 0) == (y >= x) {
			out = append(out, y)
		}
	}
	return out
}

// edges are numbers about 0, multiples of q, powers of 2, and an int's ends, each above and below 0.
func edges() []int {
	var out []int
	for _, x := range []int{0, q / 2, q, 2 * q, 3 * q, q * q, 100 * q, 4096, math.MaxInt, math.MinInt, math.MaxInt / q * q, math.MinInt / q * q, math.MaxInt / 2} {
		out = append(out, about(x, 2)...)
		out = append(out, about(-x, 2)...)
	}
	for x := 8; x > 0; x <<= 1 {
		out = append(out, about(x, 1)...)
		out = append(out, about(-x, 1)...)
	}
	slices.Sort(out)
	return slices.Compact(out)
}

// all are numbers of all these kinds.
func all() []int { return append(edges(), wild(100)...) }

// P10.1, P10.3, P10.4: the chapter's examples.
func TestExamples(t *testing.T) {
	is(t, Mod(-1), 3328, "Mod", -1)
	is(t, Power(17, 128), 3328, "Power", 17, 128)
	is(t, Compress(1, 832), 0, "Compress", 1, 832)
	is(t, Compress(1, 833), 1, "Compress", 1, 833)
	is(t, Zeta(1), 1729, "Zeta", 1)
	is(t, Q, 3329, "Q")
}

// P10.1: each number from far below 0 on, counted along.
func TestModCounted(t *testing.T) {
	want := 0
	for x := -50 * q; x <= 50*q; x++ {
		is(t, Mod(x), want, "Mod", x)
		if want++; want == q {
			want = 0
		}
	}
}

// P10.1: edges and numbers without order, by the chapter's words.
func TestModByItsWords(t *testing.T) {
	for _, x := range append(all(), wild(10000)...) {
		got := Mod(x)
		is(t, got, plainRest(number(x)), "Mod", x)
		if differs := new(big.Int).Sub(number(x), number(got)); !inside(got) || new(big.Int).Rem(differs, number(q)).Sign() != 0 {
			t.Fatalf("Mod of %d: %d is no rest of it", x, got)
		}
	}
}

// twos are the calls of two numbers with what the promise says of them.
var twos = []struct {
	name  string
	call  func(a, b int) int
	plain func(z, a, b *big.Int) *big.Int
}{
	{"Add", Add, (*big.Int).Add},
	{"Sub", Sub, (*big.Int).Sub},
	{"Mul", Mul, (*big.Int).Mul},
}

// P10.1: sums, differences and products of all kinds of numbers, those too that run over an int.
func TestTwosByTheirWords(t *testing.T) {
	numbers := all()
	for _, c := range twos {
		for _, a := range numbers {
			for _, b := range numbers {
				is(t, c.call(a, b), plainRest(c.plain(new(big.Int), number(a), number(b))), c.name, a, b)
			}
		}
	}
}

// P10.1: all pairs of a rest with one of some, about 0, the half and q, in both orders.
func TestTwosOfRests(t *testing.T) {
	for a := range q {
		for _, b := range []int{0, 1, 2, 17, 1663, 1664, 1665, 1666, 3326, 3327, 3328, q - a, a} {
			is(t, Add(a, b), (a+b)%q, "Add", a, b)
			is(t, Add(b, a), (a+b)%q, "Add", b, a)
			is(t, Sub(a, b), (a+q-b)%q, "Sub", a, b)
			is(t, Sub(b, a), (b+q-a)%q, "Sub", b, a)
			is(t, Mul(a, b), a*b%q, "Mul", a, b)
			is(t, Mul(b, a), a*b%q, "Mul", b, a)
		}
	}
}

// P10.1: what runs over an int, said by hand: 2^63 has the rest 1494, by 64 bits.
func TestOverAnInt(t *testing.T) {
	if math.MaxInt != math.MaxInt64 {
		t.Skip("an int of fewer bits")
	}
	is(t, Mod(math.MinInt), q-1494, "Mod", math.MinInt)
	is(t, Mod(math.MaxInt), 1493, "Mod", math.MaxInt)
	is(t, Add(math.MaxInt, 1), 1494, "Add", math.MaxInt, 1)
	is(t, Add(math.MaxInt, math.MaxInt), 2*1493, "Add", math.MaxInt, math.MaxInt)
	is(t, Add(math.MinInt, math.MinInt), q-2*1494, "Add", math.MinInt, math.MinInt)
	is(t, Sub(0, math.MinInt), 1494, "Sub", 0, math.MinInt)
	is(t, Sub(math.MinInt, math.MaxInt), q-2*1494+1, "Sub", math.MinInt, math.MaxInt)
	is(t, Mul(math.MinInt, -1), 1494, "Mul", math.MinInt, -1)
	is(t, Mul(math.MinInt, math.MinInt), 1494*1494%q, "Mul", math.MinInt, math.MinInt)
}

// P10.1: the first powers of all rests, counted along; to the power of 0 each is 1, 0 too.
func TestPowerCounted(t *testing.T) {
	for a := range q {
		want := 1
		for n := range 40 {
			is(t, Power(a, n), want, "Power", a, n)
			want = want * a % q
		}
	}
}

// P10.1: numbers of all kinds to powers of all kinds, great ones too.
func TestPowerByItsWords(t *testing.T) {
	numbers := all()
	for _, a := range numbers {
		for _, n := range numbers {
			want := 0
			if n >= 0 {
				want = plainRest(new(big.Int).Exp(number(plainRest(number(a))), number(n), number(q)))
			}
			is(t, Power(a, n), want, "Power", a, n)
		}
	}
}

// P10.1: n below 0 makes 0, n 0 makes 1, whatever a is.
func TestPowerOfFewTimes(t *testing.T) {
	for _, a := range append(all(), about(0, q)...) {
		for _, n := range []int{-1, -2, -q, -q + 1, -128, -256, math.MinInt + 1, math.MinInt} {
			is(t, Power(a, n), 0, "Power", a, n)
		}
		is(t, Power(a, 0), 1, "Power", a, 0)
		is(t, Power(a, 1), plainRest(number(a)), "Power", a, 1)
	}
}

// P10.1: q is a prime: to the power of q - 1 each rest but 0 is 1, to that of q itself.
func TestPowerOfThePrime(t *testing.T) {
	for a := range q {
		is(t, Power(a, q-1), min(a, 1), "Power", a, q-1)
		is(t, Power(a, q), a, "Power", a, q)
	}
}

// reduced fails unless Barrett and Montgomery make of a number what the promise says.
func reduced(t *testing.T, x uint32) {
	want := int(x % q)
	if got := Barrett(x); got != want {
		t.Helper()
		t.Fatalf("Barrett of %d: %d, want %d", x, got, want)
	}
	if got := Montgomery(x); !inside(got) || got*65536%q != want {
		t.Helper()
		t.Fatalf("Montgomery of %d: %d, which times 65536 has the rest %d, want %d", x, got, got*65536%q, want)
	}
}

// P10.2: about each multiple of q that there is, and about the greatest uint32.
func TestReducedAboutMultiples(t *testing.T) {
	for m := uint64(0); m <= math.MaxUint32; m += q {
		for _, x := range []uint64{m - 2, m - 1, m, m + 1, m + 2} {
			if x <= math.MaxUint32 {
				reduced(t, uint32(x))
			}
		}
	}
	for x := uint32(math.MaxUint32); x > math.MaxUint32-3*q; x-- {
		reduced(t, x)
	}
}

// P10.2: all rests, from 0 on and about the powers of 2.
func TestReducedAllRests(t *testing.T) {
	for x := range uint32(20 * q) {
		reduced(t, x)
	}
	for n := range 32 {
		for k := range uint32(q) {
			reduced(t, 1<<n+k)
			reduced(t, 1<<n-k) // below 0 it comes round to the greatest ones
		}
	}
}

// P10.2: where 65536 is in a number, and where its 16 lowest bits, or all others, are 0 or 1.
func TestReducedAboutShifts(t *testing.T) {
	for k := range uint32(65536) {
		for _, x := range []uint32{k << 16, k<<16 | 1, k<<16 | 65535, 0xffff0000 | k, 0x80000000 | k, 0x7fff0000 | k} {
			reduced(t, x)
		}
	}
}

// P10.2: numbers at even steps, over all there are.
func TestReducedOverAll(t *testing.T) {
	for x := uint64(0); x <= math.MaxUint32; x += 1021 {
		reduced(t, uint32(x))
	}
}

// P10.2: said by hand.
func TestReducedByHand(t *testing.T) {
	for _, c := range []struct {
		x                uint32
		rest, montgomery int
	}{
		{0, 0, 0},
		{1, 1, 169}, // 169 * 65536 is 3328 * 3328, and so 1
		{q - 1, q - 1, q - 169},
		{q, 0, 0},
		{q + 1, 1, 169},
		{65535, 2284, 3161},
		{65536, 2285, 1},
		{3 * 65536, 197, 3},
		{3328 * 65536, 1044, 3328},
		{3329 * 65536, 0, 0},
		{math.MaxUint32, 1352, 2116},
	} {
		is(t, Barrett(c.x), c.rest, "Barrett", int(c.x))
		is(t, Montgomery(c.x), c.montgomery, "Montgomery", int(c.x))
	}
}

// plainCompress says the words of P10.3, of a d that may be.
func plainCompress(d, x int) int {
	r := plainRest(number(x))
	power := 1
	for range d {
		power *= 2
	}
	return (2*power*r + q) / (2 * q) % power
}

// plainDecompress says the words of P10.3, of a d that may be.
func plainDecompress(d, y int) int {
	power := 1
	for range d {
		power *= 2
	}
	s := int(new(big.Int).Mod(number(y), number(power)).Int64())
	return (2*q*s + power) / (2 * power)
}

// P10.3: all d that may be, of all rests, and of numbers below 0 and above q.
func TestCompressByItsWords(t *testing.T) {
	for d := 1; d <= 11; d++ {
		for _, x := range append(all(), about(0, 2*q)...) {
			is(t, Compress(d, x), plainCompress(d, x), "Compress", d, x)
		}
	}
}

// P10.3: of what is rounded to the nearest, no part of 2^d is nearer; halfway it is the upper one.
func TestCompressIsNearest(t *testing.T) {
	for d := 1; d <= 11; d++ {
		parts := 1 << d
		for x := range q {
			up := x*parts/q + 1 // the first part above
			want := up - 1
			if 2*(up*q-x*parts) <= 2*x*parts-2*want*q {
				want = up
			}
			is(t, Compress(d, x), want%parts, "Compress", d, x)
		}
	}
}

// P10.3: the last rest of all is nearer to 2^d than to what is below it, and comes round to 0; by 11 bits alone it isn't.
func TestCompressComesRound(t *testing.T) {
	for d := 1; d <= 10; d++ {
		is(t, Compress(d, q-1), 0, "Compress", d, q-1)
		is(t, Compress(d, -1), 0, "Compress", d, -1)
	}
	is(t, Compress(11, q-1), 2047, "Compress", 11, q-1)
	is(t, Compress(11, -1), 2047, "Compress", 11, -1)
}

// P10.3: the first and the last rests of each number that one bit has.
func TestCompressOfOneBit(t *testing.T) {
	for x := range q {
		want := 0
		if x >= 833 && x <= 2496 {
			want = 1
		}
		is(t, Compress(1, x), want, "Compress", 1, x)
	}
}

// P10.3: what Compress makes has d bits, and all numbers of d bits come of it.
func TestCompressReachesAll(t *testing.T) {
	for d := 1; d <= 11; d++ {
		met := make([]bool, 1<<d)
		for x := range q {
			got := Compress(d, x)
			if got < 0 || got >= len(met) {
				t.Fatalf("Compress of %d bits of %d: %d", d, x, got)
			}
			met[got] = true
		}
		if slices.Contains(met, false) {
			t.Fatalf("Compress of %d bits misses some of them", d)
		}
	}
}

// P10.3: each number of d bits, ones of more bits, and ones below 0.
func TestDecompressByItsWords(t *testing.T) {
	for d := 1; d <= 11; d++ {
		for _, y := range append(all(), about(0, 5000)...) {
			got := Decompress(d, y)
			is(t, got, plainDecompress(d, y), "Decompress", d, y)
			if !inside(got) {
				t.Fatalf("Decompress of %d bits of %d: %d is no rest", d, y, got)
			}
		}
	}
}

// P10.3: said by hand, at both ends of d.
func TestRoundedByHand(t *testing.T) {
	for _, c := range []struct{ d, y, want int }{
		{1, 0, 0}, {1, 1, 1665}, {1, 2, 0}, {1, 3, 1665}, {1, -1, 1665}, {1, -2, 0},
		{2, 1, 832}, {2, 2, 1665}, {2, 3, 2497}, {2, 4, 0}, {2, -1, 2497},
		{10, 1, 3}, {10, 512, 1665}, {10, 1023, 3326}, {10, 1024, 0},
		{11, 1, 2}, {11, 1024, 1665}, {11, 2047, 3327}, {11, 2048, 0}, {11, 4095, 3327}, {11, -1, 3327},
	} {
		is(t, Decompress(c.d, c.y), c.want, "Decompress", c.d, c.y)
	}
	for _, c := range []struct{ d, x, want int }{
		{4, 104, 0}, {4, 105, 1}, {4, 1664, 8}, {4, 3224, 15}, {4, 3225, 0}, {4, -1, 0}, {4, -105, 15},
		{11, 0, 0}, {11, 1, 1}, {11, 2, 1}, {11, 3, 2}, {11, 1664, 1024}, {11, 3327, 2047}, {11, 3328, 2047}, {11, 3329, 0}, {11, -1, 2047},
	} {
		is(t, Compress(c.d, c.x), c.want, "Compress", c.d, c.x)
	}
}

// P10.3: no other d than 1 to 11, whatever the number is.
func TestOtherBits(t *testing.T) {
	numbers := append(all(), about(0, q)...)
	for _, d := range []int{0, -1, -2, -11, -63, -64, math.MinInt, 12, 13, 16, 31, 32, 62, 63, 64, 65, 256 + 1, 1<<16 + 1, math.MaxInt - 1, math.MaxInt} {
		for _, x := range numbers {
			is(t, Compress(d, x), 0, "Compress", d, x)
			is(t, Decompress(d, x), 0, "Decompress", d, x)
		}
	}
}

// zetas are those of the standard (FIPS 203, appendix A).
func zetas() []int {
	return []int{
		1, 1729, 2580, 3289, 2642, 630, 1897, 848, 1062, 1919, 193, 797, 2786, 3260, 569, 1746,
		296, 2447, 1339, 1476, 3046, 56, 2240, 1333, 1426, 2094, 535, 2882, 2393, 2879, 1974, 821,
		289, 331, 3253, 1756, 1197, 2304, 2277, 2055, 650, 1977, 2513, 632, 2865, 33, 1320, 1915,
		2319, 1435, 807, 452, 1438, 2868, 1534, 2402, 2647, 2617, 1481, 648, 2474, 3110, 1227, 910,
		17, 2761, 583, 2649, 1637, 723, 2288, 1100, 1409, 2662, 3281, 233, 756, 2156, 3015, 3050,
		1703, 1651, 2789, 1789, 1847, 952, 1461, 2687, 939, 2308, 2437, 2388, 733, 2337, 268, 641,
		1584, 2298, 2037, 3220, 375, 2549, 2090, 1645, 1063, 319, 2773, 757, 2099, 561, 2466, 2594,
		2804, 1092, 403, 1026, 1143, 2150, 2775, 886, 1722, 1212, 1874, 1029, 2110, 2935, 885, 2154,
	}
}

// plainTurned says the words of P10.4: the seven lowest bits, turned round.
func plainTurned(i int) int {
	low := int(new(big.Int).Mod(number(i), number(128)).Int64())
	k := 0
	for j := range 7 {
		if low/(1<<j)%2 == 1 {
			k += 1 << (6 - j)
		}
	}
	return k
}

// plainPower is 17 times itself, n times, counted along.
func plainPower(n int) int {
	out := 1
	for range n {
		out = out * 17 % q
	}
	return out
}

// P10.4: all i of seven bits, as in the standard.
func TestZetaOfTheStandard(t *testing.T) {
	if len(zetas()) != 128 {
		t.Fatalf("%d zetas", len(zetas()))
	}
	for i, want := range zetas() {
		is(t, Zeta(i), want, "Zeta", i)
	}
}

// P10.4: all i of seven bits, those above, and those below 0, by the promise's words.
func TestZetaByItsWords(t *testing.T) {
	for _, i := range append(all(), about(0, 1000)...) {
		is(t, Zeta(i), plainPower(plainTurned(i)), "Zeta", i)
	}
}

// P10.4: higher bits don't count, those of numbers below 0 neither.
func TestZetaOfHigherBits(t *testing.T) {
	for i, want := range zetas() {
		for _, above := range []int{128, 256, 384, 1 << 20, math.MaxInt - 127, -128, -256, -1 << 20, math.MinInt} {
			is(t, Zeta(above+i), want, "Zeta", above+i)
		}
	}
}

// P10.5: Compress of Decompress is y's rest, of each number of d bits, of more, and below 0.
func TestCompressOfDecompress(t *testing.T) {
	for d := 1; d <= 11; d++ {
		for _, y := range append(all(), about(0, 5000)...) {
			want := int(new(big.Int).Mod(number(y), number(1<<d)).Int64())
			is(t, Compress(d, Decompress(d, y)), want, "Compress of Decompress", d, y)
		}
	}
}

// P10.5: 17 to the power of 256 is 1, of 128 q - 1; and no power ahead of 256 is 1.
func TestPowersOfSeventeen(t *testing.T) {
	is(t, Power(17, 256), 1, "Power", 17, 256)
	is(t, Power(17, 128), q-1, "Power", 17, 128)
	for n := 1; n < 256; n++ {
		if Power(17, n) == 1 {
			t.Fatalf("17 to the power of %d is 1", n)
		}
		is(t, Power(17, n), plainPower(n), "Power", 17, n)
		is(t, Add(Power(17, n), Power(17, n+128)), 0, "17 to the power of n, and of n + 128", n)
	}
}

// Rule 4: the same calls have the same answers, whatever was asked between them.
func TestAgain(t *testing.T) {
	ask := func() []int {
		var out []int
		for _, x := range all() {
			out = append(out, Mod(x), Add(x, 5), Sub(5, x), Mul(x, x), Power(x, 77), Barrett(uint32(x)), Montgomery(uint32(x)), Compress(10, x), Decompress(10, x), Zeta(x))
		}
		return out
	}
	if first := ask(); !slices.Equal(first, ask()) {
		t.Fatal("another answer than before")
	}
}
