package kpke

import (
	"bytes"
	"crypto/mlkem"
	"crypto/mlkem/mlkemtest"
	"crypto/sha3"
	"strconv"
	"testing"

	"redan/api"
)

// q is the number of the chapters, not the program's own.
const q = 3329

// right fails unless bytes are the right ones, and there is no error.
func right(t *testing.T, got []byte, e api.Errno, want []byte, name string, of ...any) {
	t.Helper()
	if e != api.OK {
		t.Fatalf("%s %v: error %d", name, of, int(e))
	}
	sameBytes(t, got, want, name, of...)
}

// sameBytes fails unless bytes are the right ones.
func sameBytes(t *testing.T, got, want []byte, name string, of ...any) {
	t.Helper()
	if len(got) != len(want) {
		t.Fatalf("%s %v: %d bytes, want %d", name, of, len(got), len(want))
	}
	for i := range got {
		if got[i] != want[i] {
			t.Fatalf("%s %v: %x at %d, want %x", name, of, got[i], i, want[i])
		}
	}
}

// samePoly fails unless a polynomial is the right one.
func samePoly(t *testing.T, got, want api.Poly, name string, of ...any) {
	t.Helper()
	for i := range got {
		if got[i] != want[i] {
			t.Fatalf("%s %v: %d at %d, want %d", name, of, got[i], i, want[i])
		}
	}
}

// refused fails unless the error is ErrArg, with nothing beside it.
func refused(t *testing.T, e api.Errno, name string, sizes []int, got ...[]byte) {
	t.Helper()
	if e != api.ErrArg {
		t.Fatalf("%s of %v: error %d, want 1", name, sizes, int(e))
	}
	for i := range got {
		if len(got[i]) != 0 {
			t.Fatalf("%s of %v: %d bytes beside the error", name, sizes, len(got[i]))
		}
	}
}

// run is n times one byte.
func run(n int, c byte) []byte { return bytes.Repeat([]byte{c}, n) }

// mess are n bytes without order.
func mess(seed string, n int) []byte { return sha3.SumSHAKE256([]byte(seed), n) }

// runs are n bytes of all kinds: all 0, all 255, the first or the last one alone, and some without order.
func runs(name string, n, messes int) [][]byte {
	first, last := run(n, 0), run(n, 0)
	first[0], last[n-1] = 1, 128
	out := [][]byte{run(n, 0), run(n, 255), run(n, 1), first, last}
	for k := range messes {
		out = append(out, mess(name+strconv.Itoa(k), n))
	}
	return out
}

// plainPower is a power's rest, by as many products.
func plainPower(x, n int) int {
	out := 1
	for range n {
		out = out * x % q
	}
	return out
}

// plainFactor is what X^2 is by factor i: 17 to the power of one more than twice i with its seven bits turned round.
func plainFactor(i int) int {
	turned := 0
	for bit := range 7 {
		turned += i >> bit & 1 << (6 - bit)
	}
	return plainPower(17, 2*turned+1)
}

// plainFactors are all of them, plainShares what times them is 1.
var plainFactors, plainShares = func() (by, share [128]int) {
	for i := range by {
		by[i] = plainFactor(i)
		share[i] = plainPower(by[i], q-2)
	}
	return by, share
}()

// plainForward says chapter 11's words: X^2 is a factor's number, and so each even power is one of that number.
func plainForward(p api.Poly) api.Poly {
	var out api.Poly
	for i, by := range plainFactors {
		power := 1
		for k := range 128 {
			out[2*i] = (out[2*i] + p[2*k]*power) % q
			out[2*i+1] = (out[2*i+1] + p[2*k+1]*power) % q
			power = power * by % q
		}
	}
	return out
}

// plainInverse is what plainForward was of: the sum over the factors of a number's powers is 0, but of power 0 it is 128.
func plainInverse(p api.Poly) api.Poly {
	var out api.Poly
	share := plainPower(128, q-2)
	for i, by := range plainShares {
		power := share
		for k := range 128 {
			out[2*k] = (out[2*k] + p[2*i]*power) % q
			out[2*k+1] = (out[2*k+1] + p[2*i+1]*power) % q
			power = power * by % q
		}
	}
	return out
}

// plainTimes is the product by each factor.
func plainTimes(a, b api.Poly) api.Poly {
	var out api.Poly
	for i, by := range plainFactors {
		a0, a1, b0, b1 := a[2*i], a[2*i+1], b[2*i], b[2*i+1]
		out[2*i] = (a0*b0 + a1*b1%q*by) % q
		out[2*i+1] = (a0*b1 + a1*b0) % q
	}
	return out
}

func plainPlus(a, b api.Poly) api.Poly {
	for i := range a {
		a[i] = (a[i] + b[i]) % q
	}
	return a
}

func plainMinus(a, b api.Poly) api.Poly {
	for i := range a {
		a[i] = (a[i] - b[i] + q) % q
	}
	return a
}

// plainUniform says chapter 12's words.
func plainUniform(seed []byte) api.Poly {
	b := sha3.SumSHAKE128(seed, 4032)
	var out api.Poly
	count := 0
	for ; len(b) >= 3; b = b[3:] {
		for _, x := range []int{int(b[0]) + 256*int(b[1]%16), int(b[1]/16) + 16*int(b[2])} {
			if x < q && count < 256 {
				out[count] = x
				count++
			}
		}
	}
	return out
}

// plainSmall says the chapter's word Small, of chapter 12's Prf of 2.
func plainSmall(seed []byte, n byte) api.Poly {
	b := sha3.SumSHAKE256(append(bytes.Clone(seed), n), 128)
	var out api.Poly
	for i := range out {
		four := int(b[i/2]) >> (4 * (i % 2)) % 16
		out[i] = (four%2 + four/2%2 - four/4%2 - four/8 + q) % q
	}
	return out
}

// plainPack are coefficients below 2^d, bit by bit.
func plainPack(d int, p api.Poly) []byte {
	out := make([]byte, 32*d)
	for at := range 256 * d {
		out[at/8] |= byte(p[at/d] >> (at % d) & 1 << (at % 8))
	}
	return out
}

// plainUnpack are rests of numbers of d bits.
func plainUnpack(d int, b []byte) api.Poly {
	var out api.Poly
	for at := range 256 * d {
		out[at/d] += int(b[at/8]) >> (at % 8) & 1 << (at % d)
	}
	for i := range out {
		out[i] %= q
	}
	return out
}

func plainSqueeze(d int, p api.Poly) api.Poly {
	for i := range p {
		p[i] = (2<<d*p[i] + q) / (2 * q) % (1 << d)
	}
	return p
}

func plainSpread(d int, p api.Poly) api.Poly {
	for i := range p {
		p[i] = (2*q*p[i] + 1<<d) / (2 << d)
	}
	return p
}

// plainMatrix says the chapter's word: at i, j it is of rho, a byte j, a byte i.
func plainMatrix(rho []byte, i, j int) api.Poly {
	return plainUniform(append(bytes.Clone(rho), byte(j), byte(i)))
}

// plainGen says the words of P13.1.
func plainGen(d []byte) ([]byte, []byte) {
	both := sha3.Sum512(append(bytes.Clone(d), 3))
	rho, s := both[:32], both[32:]
	var secret [3]api.Poly
	for j := range secret {
		secret[j] = plainForward(plainSmall(s, byte(j)))
	}
	var ek, dk []byte
	for i := range secret {
		sum := plainForward(plainSmall(s, byte(3+i)))
		for j := range secret {
			sum = plainPlus(sum, plainTimes(plainMatrix(rho, i, j), secret[j]))
		}
		ek = append(ek, plainPack(12, sum)...)
		dk = append(dk, plainPack(12, secret[i])...)
	}
	return append(ek, rho...), dk
}

// plainEnc says the words of P13.2.
func plainEnc(ek, m, r []byte) []byte {
	rho := ek[1152:]
	var y [3]api.Poly
	for i := range y {
		y[i] = plainForward(plainSmall(r, byte(i)))
	}
	var out []byte
	var v api.Poly
	for i := range y {
		var u api.Poly
		for j := range y {
			u = plainPlus(u, plainTimes(plainMatrix(rho, j, i), y[j]))
		}
		u = plainPlus(plainInverse(u), plainSmall(r, byte(3+i)))
		out = append(out, plainPack(10, plainSqueeze(10, u))...)
		v = plainPlus(v, plainTimes(plainUnpack(12, ek[384*i:384*i+384]), y[i]))
	}
	v = plainPlus(plainInverse(v), plainSmall(r, 6))
	v = plainPlus(v, plainSpread(1, plainUnpack(1, m)))
	return append(out, plainPack(4, plainSqueeze(4, v))...)
}

// plainDec says the words of P13.3.
func plainDec(dk, c []byte) []byte {
	var sum api.Poly
	for i := range 3 {
		u := plainSpread(10, plainUnpack(10, c[320*i:320*i+320]))
		sum = plainPlus(sum, plainTimes(plainUnpack(12, dk[384*i:384*i+384]), plainForward(u)))
	}
	v := plainSpread(4, plainUnpack(4, c[960:]))
	return plainPack(1, plainSqueeze(1, plainMinus(v, plainInverse(sum))))
}

// keys are those of a seed, which must be right.
func keys(t *testing.T, seed string) ([]byte, []byte) {
	t.Helper()
	ek, dk, e := Gen(mess(seed, 32))
	if len(ek) != 1184 || len(dk) != 1152 || e != api.OK {
		t.Fatalf("Gen: %d bytes, %d bytes, error %d", len(ek), len(dk), int(e))
	}
	return ek, dk
}

// P13.1: the chapter's example.
func TestExamples(t *testing.T) {
	ek, dk, e := Gen(make([]byte, 31))
	refused(t, e, "Gen", []int{31}, ek, dk)
}

// P13.1: seeds of all kinds.
func TestGen(t *testing.T) {
	for k, d := range runs("gen", 32, 20) {
		ek, dk, e := Gen(d)
		wantEk, wantDk := plainGen(d)
		right(t, ek, e, wantEk, "Gen's public key", k)
		right(t, dk, e, wantDk, "Gen's private key", k)
	}
}

// P13.1: a seed with one bit alone has keys of its own.
func TestGenOfOneBit(t *testing.T) {
	seen := map[string]int{}
	for bit := range 256 {
		d := make([]byte, 32)
		d[bit/8] = 1 << (bit % 8)
		ek, dk, e := Gen(d)
		if e != api.OK {
			t.Fatalf("Gen of bit %d: error %d", bit, int(e))
		}
		seen[string(ek)]++
		seen[string(dk)]++
		if bit%32 == 31 {
			wantEk, wantDk := plainGen(d)
			sameBytes(t, ek, wantEk, "Gen's public key of bit", bit)
			sameBytes(t, dk, wantDk, "Gen's private key of bit", bit)
		}
	}
	if len(seen) != 512 {
		t.Fatalf("%d keys of 256 seeds, want 512", len(seen))
	}
}

// P13.1: the public keys of FIPS 203.
func TestGenIsTheStandards(t *testing.T) {
	for k, d := range runs("standard", 32, 20) {
		key, err := mlkem.NewDecapsulationKey768(append(bytes.Clone(d), run(32, 7)...))
		if err != nil {
			t.Fatal(err)
		}
		ek, _, e := Gen(d)
		right(t, ek, e, key.EncapsulationKey().Bytes(), "Gen's public key", k)
	}
}

// P13.1: each of the six small polynomials has its own number: they are found again in the keys.
func TestGenNumbers(t *testing.T) {
	for _, name := range []string{"one", "two", "three"} {
		ek, dk := keys(t, name)
		both := sha3.Sum512(append(mess(name, 32), 3))
		sameBytes(t, ek[1152:], both[:32], "rho")
		var secret [3]api.Poly
		for i := range secret {
			secret[i] = plainUnpack(12, dk[384*i:384*i+384])
			samePoly(t, plainInverse(secret[i]), plainSmall(both[32:], byte(i)), "S", i)
		}
		for i := range secret {
			rest := plainUnpack(12, ek[384*i:384*i+384])
			for j := range secret {
				rest = plainMinus(rest, plainTimes(plainMatrix(both[:32], i, j), secret[j]))
			}
			samePoly(t, plainInverse(rest), plainSmall(both[32:], byte(3+i)), "E", i)
		}
	}
}

// P13.1: seeds that are too short, too long, none.
func TestGenRefused(t *testing.T) {
	for _, n := range []int{0, 1, 16, 31, 33, 34, 63, 64, 65, 1152, 1184, 100000} {
		for _, c := range []byte{0, 255} {
			ek, dk, e := Gen(run(n, c))
			refused(t, e, "Gen", []int{n}, ek, dk)
		}
	}
	ek, dk, e := Gen(nil)
	refused(t, e, "Gen of nil", nil, ek, dk)
}

// P13.1, P13.2: the matrix at i, j, and turned round at j, i; turned round twice it is as it was.
func TestMatrix(t *testing.T) {
	for k, rho := range runs("rho", 32, 3) {
		m := matrixOf(rho)
		for i := range 3 {
			for j := range 3 {
				want := plainMatrix(rho, i, j)
				samePoly(t, m(i, j), want, "the matrix at", k, i, j)
				samePoly(t, turned(m)(j, i), want, "the matrix turned round at", k, j, i)
				samePoly(t, turned(turned(m))(i, j), want, "the matrix turned round twice at", k, i, j)
				if i != j && m(i, j) == m(j, i) {
					t.Fatalf("the matrix is the same at %d, %d and turned round", i, j)
				}
			}
		}
	}
}

// publics are public keys of all kinds: of seeds, and of any bytes.
func publics(t *testing.T) [][]byte {
	out := runs("public", 1184, 3)
	for _, name := range []string{"a", "b", "c"} {
		ek, _ := keys(t, name)
		out = append(out, ek)
	}
	return out
}

// P13.2: public keys, messages and chance of all kinds.
func TestEnc(t *testing.T) {
	for k, ek := range publics(t) {
		for i, m := range runs("message", 32, 2) {
			for j, r := range runs("chance", 32, 2) {
				if (i+j+k)%3 != 0 && i != j {
					continue
				}
				c, e := Enc(ek, m, r)
				right(t, c, e, plainEnc(ek, m, r), "Enc", k, i, j)
			}
		}
	}
}

// numbered is the public key whose numbers in 12 bits are all one.
func numbered(x int, rho []byte) []byte {
	three := []byte{byte(x), byte(x>>8 | x<<4), byte(x >> 4)}
	return append(bytes.Repeat(three, 384), rho...)
}

// P13.2: public keys' numbers about q, and from q on: they count as their rests.
func TestEncFromQOn(t *testing.T) {
	rho, m, r := mess("rho", 32), mess("m", 32), mess("r", 32)
	for _, x := range []int{0, 1, 3327, 3328, 3329, 3330, 3331, 4000, 4094, 4095} {
		c, e := Enc(numbered(x, rho), m, r)
		right(t, c, e, plainEnc(numbered(x, rho), m, r), "Enc by a key of numbers", x)
		again, e := Enc(numbered(x%q, rho), m, r)
		right(t, again, e, c, "Enc by a key of rests", x)
	}
	ek, _ := keys(t, "rests")
	more := bytes.Clone(ek)
	for at := 0; at < 1152; at += 3 {
		low, high := int(ek[at])+256*int(ek[at+1]%16), int(ek[at+1]/16)+16*int(ek[at+2])
		if low+q < 4096 {
			low += q
		}
		if high+q < 4096 {
			high += q
		}
		more[at], more[at+1], more[at+2] = byte(low), byte(low>>8|high<<4), byte(high>>4)
	}
	if bytes.Equal(more, ek) {
		t.Fatal("the key has no rest that a number from q on has too")
	}
	want, _ := Enc(ek, m, r)
	c, e := Enc(more, m, r)
	right(t, c, e, want, "Enc by a key of numbers from q on")
}

// P13.2: messages with one bit alone, at each place; Dec tells them again.
func TestEncOfOneBit(t *testing.T) {
	ek, dk := keys(t, "one bit")
	r := mess("one bit", 32)
	none, e := Enc(ek, make([]byte, 32), r)
	if e != api.OK {
		t.Fatal(e)
	}
	for bit := range 256 {
		m := make([]byte, 32)
		m[bit/8] = 1 << (bit % 8)
		c, e := Enc(ek, m, r)
		if bit%16 == 5 {
			right(t, c, e, plainEnc(ek, m, r), "Enc of bit", bit)
		}
		want := bytes.Clone(none)
		want[960+bit/2] = c[960+bit/2]
		right(t, c, e, want, "Enc, but for the half byte of bit", bit)
		// Half of q is 8 of 16, give or take one where both are rounded.
		moved := int(c[960+bit/2]>>(4*(bit%2))-none[960+bit/2]>>(4*(bit%2))) & 15
		other := 4 * (1 - bit%2)
		if moved < 7 || moved > 9 || c[960+bit/2]>>other&15 != none[960+bit/2]>>other&15 {
			t.Fatalf("Enc of bit %d: %x, and of none %x", bit, c[960+bit/2], none[960+bit/2])
		}
		got, e := Dec(dk, c)
		right(t, got, e, m, "Dec of bit", bit)
	}
}

// P13.2: with one small polynomial's number taken for another one's, what is told is another thing: each has its own.
func TestEncNumbers(t *testing.T) {
	ek, _ := keys(t, "numbers")
	m, r := mess("m", 32), mess("numbers", 32)
	c, e := Enc(ek, m, r)
	right(t, c, e, plainEnc(ek, m, r), "Enc")
	seen := map[api.Poly]int{}
	for n := range 7 {
		p := small(r, n)
		samePoly(t, p, plainSmall(r, byte(n)), "small", n)
		seen[p]++
	}
	if len(seen) != 7 {
		t.Fatalf("%d small polynomials, want 7", len(seen))
	}
	for first := range 5 {
		three := smallRow(r, first)
		for i := range 3 {
			samePoly(t, three[i], plainSmall(r, byte(first+i)), "a row of small ones", first, i)
		}
	}
}

// P13.2: U hangs on rho and chance alone: not on the message, nor on T.
func TestEncParts(t *testing.T) {
	rho, r := mess("rho", 32), mess("r", 32)
	first, _ := Enc(numbered(1, rho), run(32, 0), r)
	for k, m := range runs("parts", 32, 2) {
		c, e := Enc(append(mess(strconv.Itoa(k), 1152), rho...), m, r)
		right(t, c[:960], e, first[:960], "U", k)
	}
	other, _ := Enc(numbered(1, mess("other rho", 32)), run(32, 0), r)
	if bytes.Equal(other[:960], first[:960]) || !bytes.Equal(other[960:], first[960:]) {
		t.Fatal("another rho changes U, and U alone")
	}
}

// P13.2: of T 0, V is the message, rounded to 4 bits, and what is small is too small to be seen.
func TestEncByHand(t *testing.T) {
	for k, m := range runs("by hand", 32, 4) {
		c, e := Enc(make([]byte, 1184), m, mess("by hand", 32))
		want := make([]byte, 128)
		for bit := range 256 {
			want[bit/2] |= m[bit/8] >> (bit % 8) & 1 << (3 + 4*(bit%2))
		}
		right(t, c[960:], e, want, "V of T 0", k)
	}
}

// P13.2: what the standard's KEM tells is Enc of a message, with chance of it and the key's sum.
func TestEncIsTheStandards(t *testing.T) {
	for k, m := range runs("standard", 32, 10) {
		ek, dk := keys(t, strconv.Itoa(k))
		sum := sha3.Sum256(ek)
		both := sha3.Sum512(append(bytes.Clone(m), sum[:]...))
		key, err := mlkem.NewEncapsulationKey768(ek)
		if err != nil {
			t.Fatal(err)
		}
		secret, want, err := mlkemtest.Encapsulate768(key, m)
		if err != nil {
			t.Fatal(err)
		}
		sameBytes(t, both[:32], secret, "the standard's secret", k)
		c, e := Enc(ek, m, both[32:])
		right(t, c, e, want, "Enc", k)
		got, e := Dec(dk, want)
		right(t, got, e, m, "Dec", k)
	}
}

// wrong are sizes that are not the right one.
func wrong(size int) []int {
	out := []int{}
	for _, n := range []int{0, 1, size - 1, size + 1, size / 2, 2 * size, size + 32, 31, 33, 1088, 1152, 1184, 2400} {
		if n != size {
			out = append(out, n)
		}
	}
	return out
}

// P13.2: public keys, messages and chance that are too short, too long, none; one of them alone, and all.
func TestEncRefused(t *testing.T) {
	sizes := [][]int{{0, 0, 0}, {1183, 31, 31}, {1185, 33, 33}, {32, 1184, 32}, {32, 32, 1184}, {1184, 31, 33}, {1184, 33, 31}, {1183, 33, 32}, {1216, 0, 32}}
	for _, n := range wrong(1184) {
		sizes = append(sizes, []int{n, 32, 32})
	}
	for _, n := range wrong(32) {
		sizes = append(sizes, []int{1184, n, 32}, []int{1184, 32, n})
	}
	for _, size := range sizes {
		c, e := Enc(run(size[0], 5), run(size[1], 5), run(size[2], 5))
		refused(t, e, "Enc", size, c)
	}
	c, e := Enc(nil, run(32, 5), run(32, 5))
	refused(t, e, "Enc of nil", nil, c)
	c, e = Enc(run(1184, 5), nil, run(32, 5))
	refused(t, e, "Enc of nil", nil, c)
	c, e = Enc(run(1184, 5), run(32, 5), nil)
	refused(t, e, "Enc of nil", nil, c)
}

// P13.3: what Enc told under a seed's key, with messages and chance of all kinds.
func TestDecOfEnc(t *testing.T) {
	for k, m := range runs("message", 32, 8) {
		ek, dk := keys(t, "dec "+strconv.Itoa(k))
		for i, r := range runs("chance", 32, 3) {
			c, e := Enc(ek, m, r)
			if e != api.OK {
				t.Fatal(e)
			}
			got, e := Dec(dk, c)
			right(t, got, e, plainDec(dk, c), "Dec of Enc", k, i)
			right(t, got, e, m, "Dec's message", k, i)
		}
	}
}

// P13.3: private keys and what is decrypted of any bytes.
func TestDecOfAnyBytes(t *testing.T) {
	_, key := keys(t, "any")
	for k, dk := range append(runs("private", 1152, 6), key) {
		for i, c := range runs("sealed", 1088, 6) {
			got, e := Dec(dk, c)
			right(t, got, e, plainDec(dk, c), "Dec", k, i)
		}
	}
}

// P13.3: private keys' numbers about q, and from q on: they count as their rests.
func TestDecFromQOn(t *testing.T) {
	c := mess("sealed", 1088)
	for _, x := range []int{0, 1, 3328, 3329, 3330, 4094, 4095} {
		got, e := Dec(numbered(x, nil), c)
		right(t, got, e, plainDec(numbered(x, nil), c), "Dec by a key of numbers", x)
		again, e := Dec(numbered(x%q, nil), c)
		right(t, again, e, got, "Dec by a key of rests", x)
	}
}

// P13.3: of a key 0, the message is V rounded to 1 bit: from 4 of 16 on, and below 12.
func TestDecByHand(t *testing.T) {
	for four := range 16 {
		c := append(mess("U", 960), run(128, byte(four*17))...)
		want := run(32, 0)
		// Spread(4, 4) is 832, and Spread(4, 12) is 2497: both are rounded to 0.
		if four > 4 && four < 12 {
			want = run(32, 255)
		}
		got, e := Dec(run(1152, 0), c)
		right(t, got, e, want, "Dec by a key 0 of V", four)
	}
}

// P13.3: each byte of what is decrypted counts, and each place of the message is found.
func TestDecOfChangedBytes(t *testing.T) {
	ek, dk := keys(t, "changed")
	m := mess("changed", 32)
	c, _ := Enc(ek, m, mess("r", 32))
	for _, at := range []int{0, 1, 319, 320, 639, 640, 959, 960, 961, 1000, 1086, 1087} {
		changed := bytes.Clone(c)
		changed[at] ^= 0x88
		got, e := Dec(dk, changed)
		right(t, got, e, plainDec(dk, changed), "Dec of a byte changed at", at)
	}
	for place := range 256 {
		changed := bytes.Clone(c)
		changed[960+place/2] ^= 8 << (4 * (place % 2))
		want := bytes.Clone(m)
		want[place/8] ^= 1 << (place % 8)
		got, e := Dec(dk, changed)
		right(t, got, e, want, "Dec of V moved by a half at", place)
	}
}

// P13.3: private keys and what is decrypted that are too short, too long, none; one of them alone, and both.
func TestDecRefused(t *testing.T) {
	sizes := [][]int{{0, 0}, {1151, 1087}, {1153, 1089}, {1088, 1152}, {1151, 1089}, {1153, 1087}, {1184, 1088}, {2400, 1088}}
	for _, n := range wrong(1152) {
		sizes = append(sizes, []int{n, 1088})
	}
	for _, n := range wrong(1088) {
		sizes = append(sizes, []int{1152, n})
	}
	for _, size := range sizes {
		m, e := Dec(run(size[0], 5), run(size[1], 5))
		refused(t, e, "Dec", size, m)
	}
	m, e := Dec(nil, run(1088, 5))
	refused(t, e, "Dec of nil", nil, m)
	m, e = Dec(run(1152, 5), nil)
	refused(t, e, "Dec of nil", nil, m)
}

// roomy is a row with bytes behind it that are within its room.
func roomy(b []byte) []byte { return append(bytes.Clone(b), run(2000, 99)...)[:len(b)] }

// untouched fails unless a row and what lies behind it are as roomy made them.
func untouched(t *testing.T, got, was []byte, name string) {
	t.Helper()
	sameBytes(t, got, was, name)
	sameBytes(t, got[len(got):len(got)+2000], run(2000, 99), "behind "+name)
}

// P13.4: what is handed in is left as it was, and the bytes behind it too.
func TestNothingIsChanged(t *testing.T) {
	d, m, r := mess("d", 32), mess("m", 32), mess("r", 32)
	ek, dk, _ := Gen(d)
	c, _ := Enc(ek, m, r)
	d2, ek2, m2, r2, dk2, c2 := roomy(d), roomy(ek), roomy(m), roomy(r), roomy(dk), roomy(c)
	ek3, dk3, e := Gen(d2)
	right(t, ek3, e, ek, "Gen again")
	right(t, dk3, e, dk, "Gen again")
	c3, e := Enc(ek2, m2, r2)
	right(t, c3, e, c, "Enc again")
	m3, e := Dec(dk2, c2)
	right(t, m3, e, m, "Dec again")
	untouched(t, d2, d, "Gen's d")
	untouched(t, ek2, ek, "Enc's ek")
	untouched(t, m2, m, "Enc's m")
	untouched(t, r2, r, "Enc's r")
	untouched(t, dk2, dk, "Dec's dk")
	untouched(t, c2, c, "Dec's c")
}

// spoil changes all bytes of a row, and all within its room behind it.
func spoil(b []byte) {
	b = b[:cap(b)]
	for i := range b {
		b[i] ^= 255
	}
}

// P13.4: whoever changes an answer, or what was handed in, changes nothing else.
func TestNewMemory(t *testing.T) {
	d, m, r := mess("d", 32), mess("m", 32), mess("r", 32)
	wantEk, wantDk := plainGen(d)
	wantC := plainEnc(wantEk, m, r)
	ek, dk, _ := Gen(d)
	spoil(d)
	sameBytes(t, ek, wantEk, "the public key, after the seed was changed")
	sameBytes(t, dk, wantDk, "the private key, after the seed was changed")
	spoil(dk)
	sameBytes(t, ek, wantEk, "the public key, after the private one was changed")
	dk = bytes.Clone(wantDk)
	c, _ := Enc(ek, m, r)
	spoil(ek)
	sameBytes(t, dk, wantDk, "the private key, after the public one was changed")
	spoil(m)
	spoil(r)
	sameBytes(t, c, wantC, "what was encrypted, after what it is of was changed")
	got, _ := Dec(dk, c)
	spoil(dk)
	spoil(c)
	sameBytes(t, got, mess("m", 32), "the message, after what it is of was changed")
	ek, dk, _ = Gen(mess("d", 32))
	spoil(ek)
	sameBytes(t, dk, wantDk, "the private key, after the public one and all its room were changed")
	ek, dk, e := Gen(mess("d", 32))
	right(t, ek, e, wantEk, "Gen, after all of that")
	right(t, dk, e, wantDk, "Gen, after all of that")
}
