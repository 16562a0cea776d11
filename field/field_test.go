package field

import (
	"bytes"
	"encoding/hex"
	"math"
	"math/big"
	"testing"
)

// power is 2^n.
func power(n uint) *big.Int { return new(big.Int).Lsh(big.NewInt(1), n) }

// plus is x + n.
func plus(x *big.Int, n int64) *big.Int { return new(big.Int).Add(x, big.NewInt(n)) }

// prime is 2^255 - 19.
func prime() *big.Int { return plus(power(255), -19) }

// number is the number of an El's words.
func number(a El) *big.Int {
	out := new(big.Int)
	for i, x := range a {
		out.Add(out, new(big.Int).Mul(new(big.Int).SetUint64(x), power(uint(64*i))))
	}
	return out
}

// el is the El of a number's lowest 256 bits.
func el(x *big.Int) El {
	var out El
	for i := range out {
		word := new(big.Int).Rsh(x, uint(64*i))
		out[i] = word.And(word, new(big.Int).SetUint64(math.MaxUint64)).Uint64()
	}
	return out
}

// restOf is the rest of a number by the prime, from 0 on.
func restOf(x *big.Int) *big.Int { return new(big.Int).Mod(x, prime()) }

// inverse is the number that makes 1 times x by the prime; of 0: 0.
func inverse(x *big.Int) *big.Int {
	if restOf(x).Sign() == 0 {
		return new(big.Int)
	}
	return new(big.Int).ModInverse(x, prime())
}

// inBytes is a number in 32 bytes, the lowest first.
func inBytes(x *big.Int) []byte {
	out := x.FillBytes(make([]byte, 32))
	for i := range 16 {
		out[i], out[31-i] = out[31-i], out[i]
	}
	return out
}

// row is a row of n bytes, another one for each seed.
func row(n, seed int) []byte {
	out := make([]byte, n)
	x := uint32(seed)*2654435761 + 12345
	for i := range n {
		x = x*1664525 + 1013904223
		out[i] = byte(x >> 24)
	}
	return out
}

// wild are Els of words without order.
func wild(n int) []El {
	var out []El
	for seed := range n {
		out = append(out, el(new(big.Int).SetBytes(row(32, seed))))
	}
	return out
}

// edges are Els about 0, p, 2p, 2^255, 2^256, and each word's ends.
func edges() []El {
	var out []El
	for _, x := range []*big.Int{new(big.Int), prime(), new(big.Int).Lsh(prime(), 1), power(254), power(255), power(256)} {
		for _, n := range []int64{-39, -38, -37, -20, -19, -18, -2, -1, 0, 1, 2, 18, 19, 20, 37, 38, 39} {
			if y := plus(x, n); y.Sign() >= 0 && y.BitLen() <= 256 {
				out = append(out, el(y))
			}
		}
	}
	for _, n := range []uint{63, 64, 65, 127, 128, 129, 191, 192, 193} {
		out = append(out, el(power(n)), el(plus(power(n), -1)))
	}
	return out
}

// extremes are Els whose words each are 0, 1, 2^63 or all bits 1.
func extremes() []El {
	ends := []uint64{0, 1, 1 << 63, math.MaxUint64}
	var out []El
	for n := range 256 {
		out = append(out, El{ends[n%4], ends[n/4%4], ends[n/16%4], ends[n/64]})
	}
	return out
}

// all are Els of all these kinds.
func all() []El {
	return append(append(edges(), extremes()...), wild(60)...)
}

// stands fails unless an El stands for a number's rest, which is asked of its words, not of Encode.
func stands(t *testing.T, name string, got El, want *big.Int) {
	t.Helper()
	if restOf(number(got)).Cmp(restOf(want)) != 0 {
		t.Fatalf("%s stands for %x, want %x", name, restOf(number(got)), restOf(want))
	}
}

// alike fails unless two Els stand for one rest.
func alike(t *testing.T, name string, a, b El) {
	t.Helper()
	stands(t, name, a, number(b))
}

// P5.1, P5.2: the chapter's examples, whole.
func TestExamples(t *testing.T) {
	want := append([]byte{18}, make([]byte, 31)...)
	if got := Encode(Decode(bytes.Repeat([]byte{255}, 32))); !bytes.Equal(got, want) {
		t.Errorf("Encode of Decode of bytes 255: %v", got)
	}
	want = append(append([]byte{236}, bytes.Repeat([]byte{255}, 30)...), 127)
	if got := Encode(Sub(El{}, El{1})); !bytes.Equal(got, want) {
		t.Errorf("Encode of Sub of 0 and 1: %v", got)
	}
}

// P5.1: Decode of fewer and more bytes than 32, and of none, by the promise's words.
func TestDecode(t *testing.T) {
	for n := range 80 {
		for _, b := range [][]byte{row(n, n), make([]byte, n), bytes.Repeat([]byte{255}, n), bytes.Repeat([]byte{128}, n)} {
			want := new(big.Int)
			for i := range min(n, 32) {
				want.Add(want, new(big.Int).Mul(big.NewInt(int64(b[i])), power(uint(8*i))))
			}
			if want.Bit(255) == 1 {
				want.Sub(want, power(255))
			}
			stands(t, "Decode of "+hex.EncodeToString(b), Decode(b), want)
		}
	}
	for _, none := range [][]byte{nil, {}} {
		stands(t, "Decode of nothing", Decode(none), new(big.Int))
	}
}

// P5.1: each bit of the first 32 bytes counts as its power of 2, but 2^255; no bit behind them does.
func TestDecodeEachBit(t *testing.T) {
	for i := range 8 * 40 {
		b := make([]byte, 40)
		b[i/8] = 1 << (i % 8)
		want := new(big.Int)
		if i < 255 {
			want = power(uint(i))
		}
		stands(t, "Decode of one bit", Decode(b), want)
	}
}

// P5.1: 2^255 in the bytes changes nothing; with fewer than 32 bytes their highest bit is another one.
func TestDecodeWithoutHighest(t *testing.T) {
	for seed := range 20 {
		b := row(32, seed)
		b[31] &= 127
		low := Decode(b)
		b[31] |= 128
		alike(t, "Decode with 2^255", Decode(b), low)
	}
	b := append(make([]byte, 30), 128)
	stands(t, "Decode of 31 bytes", Decode(b), power(247))
}

// P5.1: Decode looks at what a row has, not at what lies behind it in memory, and changes neither.
func TestDecodeEndsWithTheRow(t *testing.T) {
	room := bytes.Repeat([]byte{77}, 64)
	for n := range len(room) + 1 {
		alike(t, "Decode of a part", Decode(room[:n]), Decode(bytes.Clone(room[:n:n])))
		if !bytes.Equal(room, bytes.Repeat([]byte{77}, 64)) {
			t.Fatalf("Decode of %d bytes changed what it was handed: %v", n, room)
		}
	}
}

// P5.1: Decode keeps nothing of what it is handed.
func TestDecodeKeepsNothing(t *testing.T) {
	b := row(32, 1)
	first := Decode(b)
	clear(b)
	alike(t, "an earlier answer", first, Decode(row(32, 1)))
	stands(t, "Decode of what was changed", Decode(b), new(big.Int))
}

// P5.1: Encode of any words: the rest in 32 bytes.
func TestEncode(t *testing.T) {
	for _, a := range all() {
		if got, want := Encode(a), inBytes(restOf(number(a))); !bytes.Equal(got, want) {
			t.Errorf("Encode of %x: %x, want %x", a, got, want)
		}
	}
}

// P5.1: Encode of p - 1 is the greatest; p and 2p are 0, and all bits 1 are 37.
func TestEncodeAboutThePrime(t *testing.T) {
	ones := uint64(math.MaxUint64)
	for _, c := range []struct {
		a    El
		want string
	}{
		{El{ones - 19, ones, ones, ones >> 1}, "ecffffffffffffffffffffffffffffffffffffffffffffffffffffffffffff7f"},
		{El{ones - 18, ones, ones, ones >> 1}, "0000000000000000000000000000000000000000000000000000000000000000"},
		{El{ones - 17, ones, ones, ones >> 1}, "0100000000000000000000000000000000000000000000000000000000000000"},
		{El{ones, ones, ones, ones >> 1}, "1200000000000000000000000000000000000000000000000000000000000000"},
		{El{0, 0, 0, 1 << 63}, "1300000000000000000000000000000000000000000000000000000000000000"},
		{El{ones - 38, ones, ones, ones}, "ecffffffffffffffffffffffffffffffffffffffffffffffffffffffffffff7f"},
		{El{ones - 37, ones, ones, ones}, "0000000000000000000000000000000000000000000000000000000000000000"},
		{El{ones, ones, ones, ones}, "2500000000000000000000000000000000000000000000000000000000000000"},
	} {
		if got := hex.EncodeToString(Encode(c.a)); got != c.want {
			t.Errorf("Encode of %x: %s, want %s", c.a, got, c.want)
		}
	}
}

// P5.1: what Encode answers is new memory.
func TestEncodeIsNew(t *testing.T) {
	a := wild(1)[0]
	first, second := Encode(a), Encode(a)
	want := bytes.Clone(second)
	whole := first[:cap(first)]
	for i := range whole {
		whole[i] = ^whole[i]
	}
	if !bytes.Equal(second, want) || !bytes.Equal(Encode(a), want) {
		t.Error("answers of Encode share memory")
	}
}

// P5.2: sums, differences and products of any two.
func TestOfTwo(t *testing.T) {
	for _, a := range all() {
		x := number(a)
		for _, b := range all() {
			y := number(b)
			stands(t, "Add", Add(a, b), new(big.Int).Add(x, y))
			stands(t, "Sub", Sub(a, b), new(big.Int).Sub(x, y))
			stands(t, "Mul", Mul(a, b), new(big.Int).Mul(x, y))
		}
	}
}

// P5.2: squares of any one.
func TestSquare(t *testing.T) {
	for _, a := range append(all(), wild(2000)...) {
		stands(t, "Square", Square(a), new(big.Int).Mul(number(a), number(a)))
	}
}

// P5.2: products whose high half, taken times 38, comes close below a multiple of 2^256: what is folded is carried out once more.
func TestMulFoldsTwice(t *testing.T) {
	half := el(power(255))
	for n := range int64(18) {
		x := new(big.Int).Mul(big.NewInt(n+1), power(256))
		x.Lsh(x.Div(x, big.NewInt(38)), 1)
		for _, off := range []int64{-4, -2, -1, 0, 1, 2, 4} {
			a := el(plus(x, off))
			want := new(big.Int).Mul(number(a), power(255))
			stands(t, "Mul by 2^255", Mul(a, half), want)
			stands(t, "Mul of 2^255", Mul(half, a), want)
		}
	}
}

// P5.2: Times by small numbers, by those about powers of 2, and by the greatest.
func TestTimes(t *testing.T) {
	small := []uint32{0, 1, 2, 3, 19, 38, 121665, 121666, math.MaxUint16, math.MaxInt32, math.MaxUint32 - 1, math.MaxUint32}
	for i := range 32 {
		small = append(small, 1<<i)
	}
	for _, a := range all() {
		for _, n := range small {
			stands(t, "Times", Times(a, n), new(big.Int).Mul(number(a), big.NewInt(int64(n))))
			alike(t, "Times and Mul", Times(a, n), Mul(a, El{uint64(n)}))
		}
	}
}

// P5.2: the greatest n of all bits 1, in full: n 37.
func TestTimesGreatest(t *testing.T) {
	ones := uint64(math.MaxUint64)
	if got, want := Encode(Times(El{ones, ones, ones, ones}, math.MaxUint32)), inBytes(big.NewInt(37*math.MaxUint32)); !bytes.Equal(got, want) {
		t.Errorf("Times of all bits 1 by the greatest n: %x, want %x", got, want)
	}
}

// P5.2: Invert of any one.
func TestInvert(t *testing.T) {
	for _, a := range all() {
		stands(t, "Invert", Invert(a), inverse(number(a)))
	}
	alike(t, "Invert of 1", Invert(El{1}), El{1})
	alike(t, "Invert of -1", Invert(Sub(El{}, El{1})), Sub(El{}, El{1}))
}

// P5.2: 0 inverted is 0, whatever words stand for it.
func TestInvertOfNothing(t *testing.T) {
	for _, a := range []El{{}, el(prime()), el(new(big.Int).Lsh(prime(), 1)), Sub(El{7}, El{7}), Mul(El{}, wild(1)[0])} {
		if got := Encode(Invert(a)); !bytes.Equal(got, make([]byte, 32)) {
			t.Errorf("Invert of %x, which stands for 0: %x", a, got)
		}
	}
}

// P5.2: a known number whose square is -1 (2 to the power (p - 1) / 4).
func TestRootOfMinusOne(t *testing.T) {
	b, err := hex.DecodeString("b0a00e4a271beec478e42fad0618432fa7d7fb3d99004d2b0bdfc14f8024832b")
	if err != nil {
		t.Fatal(err)
	}
	root := Decode(b)
	alike(t, "the root's square", Square(root), Sub(El{}, El{1}))
	alike(t, "the root inverted", Invert(root), Sub(El{}, root))
}

// P5.2: Same asks for the rest, not for the words.
func TestSame(t *testing.T) {
	for _, a := range all() {
		for _, b := range all() {
			want := restOf(number(a)).Cmp(restOf(number(b))) == 0
			if got := Same(a, b); got != want {
				t.Fatalf("Same of %x and %x: %t", a, b, got)
			}
		}
	}
}

// P5.2: all words that stand for one rest are Same: those with p, and 2p, added.
func TestSameOfOtherWords(t *testing.T) {
	for _, n := range []int64{0, 1, 17, 18, 19, 36, 37, 38, 1000} {
		x := big.NewInt(n)
		for range 2 {
			next := new(big.Int).Add(x, prime())
			if next.BitLen() > 256 {
				break
			}
			if !Same(el(x), el(next)) || !Same(el(next), el(x)) || !Same(El{uint64(n)}, el(next)) {
				t.Errorf("%x and %x aren't Same", el(x), el(next))
			}
			if Same(el(x), el(plus(next, 1))) || Same(el(plus(next, -1)), el(x)) {
				t.Errorf("%x is Same as a neighbour of %x", el(x), el(next))
			}
			x = next
		}
	}
}

// P5.2: each bit of a word counts for Same.
func TestSameEachBit(t *testing.T) {
	for _, a := range append(wild(5), edges()...) {
		for i := range 256 {
			b := a
			b[i/64] ^= 1 << (i % 64)
			if Same(a, b) {
				t.Errorf("Same of %x and %x", a, b)
			}
		}
	}
}

// P5.2: Swap turns round by the bit 1 alone, and leaves the words as they are.
func TestSwap(t *testing.T) {
	others := []int{0, -1, -2, 2, 3, 5, 7, 255, 256, 257, -255, -256, 1 << 16, 1<<16 + 1, math.MaxInt32, math.MinInt32, math.MaxInt, math.MinInt, math.MinInt + 1}
	for _, a := range all() {
		for _, b := range all() {
			if x, y := Swap(1, a, b); x != b || y != a {
				t.Fatalf("Swap(1, %x, %x) = %x, %x", a, b, x, y)
			}
			for _, bit := range others {
				if x, y := Swap(bit, a, b); x != a || y != b {
					t.Fatalf("Swap(%d, %x, %x) = %x, %x", bit, a, b, x, y)
				}
			}
		}
	}
}

// P5.3: sums and products can be turned and grouped, and a product with a sum is the sum of products.
func TestLaws(t *testing.T) {
	some := append(edges()[:40], wild(20)...)
	for _, a := range some {
		for _, b := range some {
			alike(t, "a sum turned", Add(a, b), Add(b, a))
			alike(t, "a product turned", Mul(a, b), Mul(b, a))
			for _, c := range wild(6) {
				alike(t, "sums grouped", Add(Add(a, b), c), Add(a, Add(b, c)))
				alike(t, "products grouped", Mul(Mul(a, b), c), Mul(a, Mul(b, c)))
				alike(t, "a product with a sum", Mul(a, Add(b, c)), Add(Mul(a, b), Mul(a, c)))
			}
		}
	}
}

// P5.3: 0 and 1 change nothing, differences undo sums, and all but 0 are inverted.
func TestUndone(t *testing.T) {
	for _, a := range all() {
		alike(t, "0 added", Add(a, El{}), a)
		alike(t, "1 multiplied", Mul(a, El{1}), a)
		alike(t, "a less a", Sub(a, a), El{})
		for _, b := range wild(8) {
			alike(t, "a sum undone", Sub(Add(a, b), b), a)
			alike(t, "a product undone", Mul(Mul(a, b), Invert(b)), a)
		}
		back := Invert(a)
		alike(t, "inverted twice", Invert(back), a)
		want := El{1}
		if Same(a, El{}) {
			want = El{}
		}
		alike(t, "a times what it is inverted", Mul(a, back), want)
	}
}

// P5.3: no product of others than 0 is 0.
func TestNoneMakesNothing(t *testing.T) {
	for _, a := range all() {
		for _, b := range edges() {
			if nothing := Same(a, El{}) || Same(b, El{}); Same(Mul(a, b), El{}) != nothing {
				t.Errorf("Mul of %x and %x: 0 is %t", a, b, !nothing)
			}
		}
	}
}

// P5.3: what is encoded is decoded as it was, and bytes below p are encoded as they were.
func TestEncodedIsDecoded(t *testing.T) {
	for _, a := range all() {
		b := Encode(a)
		if back := Decode(b); !Same(back, a) || !bytes.Equal(Encode(back), b) {
			t.Errorf("%x is encoded as %x, which is decoded as %x", a, b, back)
		}
		alike(t, "what was encoded and decoded", Decode(b), a)
	}
}

// P5.3: words that stand for one rest make the same of all.
func TestOtherWordsMakeTheSame(t *testing.T) {
	for n := range uint64(19) {
		a, b := El{n}, el(plus(prime(), int64(n)))
		for _, c := range append(edges(), wild(10)...) {
			for i, pair := range [][2]El{
				{Add(a, c), Add(b, c)}, {Sub(a, c), Sub(b, c)}, {Sub(c, a), Sub(c, b)}, {Mul(a, c), Mul(b, c)},
				{Square(a), Square(b)}, {Times(a, math.MaxUint32), Times(b, math.MaxUint32)}, {Invert(a), Invert(b)},
			} {
				if !Same(pair[0], pair[1]) || !bytes.Equal(Encode(pair[0]), Encode(pair[1])) {
					t.Fatalf("call %d tells %x from %x (with %x)", i, a, b, c)
				}
			}
		}
	}
}

// Rule 4: the same calls have the same answers, word by word.
func TestAgain(t *testing.T) {
	for _, a := range edges() {
		for _, b := range wild(3) {
			if Add(a, b) != Add(a, b) || Sub(a, b) != Sub(a, b) || Mul(a, b) != Mul(a, b) || Invert(a) != Invert(a) || Times(a, 9) != Times(a, 9) {
				t.Errorf("other answers for the same %x, %x", a, b)
			}
		}
	}
}

// FuzzField holds all calls on any two against long numbers.
func FuzzField(f *testing.F) {
	f.Add(make([]byte, 64), uint32(1))
	f.Add(bytes.Repeat([]byte{255}, 64), uint32(math.MaxUint32))
	f.Fuzz(func(t *testing.T, raw []byte, n uint32) {
		var full [64]byte
		copy(full[:], raw)
		x, y := new(big.Int).SetBytes(full[:32]), new(big.Int).SetBytes(full[32:])
		a, b := el(x), el(y)
		stands(t, "Add", Add(a, b), new(big.Int).Add(x, y))
		stands(t, "Sub", Sub(a, b), new(big.Int).Sub(x, y))
		stands(t, "Mul", Mul(a, b), new(big.Int).Mul(x, y))
		stands(t, "Times", Times(a, n), new(big.Int).Mul(x, big.NewInt(int64(n))))
		stands(t, "Invert", Invert(a), inverse(x))
		if !bytes.Equal(Encode(a), inBytes(restOf(x))) || Same(a, b) != (restOf(x).Cmp(restOf(y)) == 0) {
			t.Errorf("the rest of %x", a)
		}
	})
}

// BenchmarkMul and BenchmarkInvert tell what the layer above stands on.
func BenchmarkMul(b *testing.B) {
	x := wild(1)[0]
	for range b.N {
		x = Mul(x, x)
	}
}

func BenchmarkInvert(b *testing.B) {
	x := wild(1)[0]
	for range b.N {
		x = Invert(x)
	}
}
