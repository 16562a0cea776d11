package curve

import (
	"bytes"
	"crypto/ecdh"
	"encoding/hex"
	"math/big"
	"testing"

	"redan/api"
)

// row is a row of n bytes, another one for each seed.
func row(n, seed int) []byte {
	out := make([]byte, n)
	x := uint32(seed)*2654435761 + 12345
	for i := range n {
		x = x*1664525 + 1013904223
		out[i] = byte(x >> 24)
	}
	return out
}

// spoil changes all bytes that a row could reach, those behind its end too.
func spoil(b []byte) {
	b = b[:cap(b)]
	for i := range b {
		b[i] = ^b[i]
	}
}

// fromHex are the bytes of a text.
func fromHex(t testing.TB, text string) []byte {
	t.Helper()
	out, err := hex.DecodeString(text)
	if err != nil {
		t.Fatal(err)
	}
	return out
}

// power is 2^n.
func power(n uint) *big.Int { return new(big.Int).Lsh(big.NewInt(1), n) }

// plus is x + n.
func plus(x *big.Int, n int64) *big.Int { return new(big.Int).Add(x, big.NewInt(n)) }

// prime is 2^255 - 19.
func prime() *big.Int { return plus(power(255), -19) }

// number is the number of bytes, the lowest first.
func number(b []byte) *big.Int {
	out := new(big.Int)
	for i, x := range b {
		out.Add(out, new(big.Int).Mul(big.NewInt(int64(x)), power(uint(8*i))))
	}
	return out
}

// inBytes is a number in 32 bytes, the lowest first.
func inBytes(x *big.Int) []byte {
	out := x.FillBytes(make([]byte, 32))
	for i := range 16 {
		out[i], out[31-i] = out[31-i], out[i]
	}
	return out
}

// plainClamp says P6.1's words for a key, over its number.
func plainClamp(k []byte) *big.Int {
	n := number(k)
	for _, place := range []int{0, 1, 2, 255} {
		n.SetBit(n, place, 0)
	}
	return n.SetBit(n, 254, 1)
}

// plainLadder says the chapter's words for the ladder, over long numbers.
func plainLadder(n, u *big.Int) *big.Int {
	p := prime()
	add := func(a, b *big.Int) *big.Int { c := new(big.Int).Add(a, b); return c.Mod(c, p) }
	sub := func(a, b *big.Int) *big.Int { c := new(big.Int).Sub(a, b); return c.Mod(c, p) }
	mul := func(a, b *big.Int) *big.Int { c := new(big.Int).Mul(a, b); return c.Mod(c, p) }
	x, z, s, t := big.NewInt(1), new(big.Int), u, big.NewInt(1)
	for place := 254; place >= 0; place-- {
		if n.Bit(place) == 1 {
			x, z, s, t = s, t, x, z
		}
		a, b := mul(add(x, z), add(x, z)), mul(sub(x, z), sub(x, z))
		e := sub(a, b)
		c, d := mul(add(x, z), sub(s, t)), mul(sub(x, z), add(s, t))
		x, z = mul(a, b), mul(e, add(a, mul(big.NewInt(121665), e)))
		s, t = mul(add(c, d), add(c, d)), mul(u, mul(sub(c, d), sub(c, d)))
		if n.Bit(place) == 1 {
			x, z, s, t = s, t, x, z
		}
	}
	if z.Sign() == 0 {
		return new(big.Int)
	}
	return mul(x, new(big.Int).ModInverse(z, p))
}

// plainScalar says P6.1's words for Scalar.
func plainScalar(k, u []byte) []byte {
	point := number(u)
	point.SetBit(point, 255, 0)
	return inBytes(plainLadder(plainClamp(k), point.Mod(point, prime())))
}

// libraryShared is the library's X25519; nothing where the library refuses a secret of noughts.
func libraryShared(t *testing.T, k, u []byte) []byte {
	t.Helper()
	private, err := ecdh.X25519().NewPrivateKey(k)
	if err != nil {
		t.Fatal(err)
	}
	public, err := ecdh.X25519().NewPublicKey(u)
	if err != nil {
		t.Fatal(err)
	}
	out, err := private.ECDH(public)
	if err != nil {
		return nil
	}
	return out
}

// clamp, scalar, shared and public are the calls where no error may be.
func clamp(t testing.TB, k []byte) []byte {
	t.Helper()
	out, e := Clamp(k)
	return fine(t, "Clamp", out, e)
}

func scalar(t testing.TB, k, u []byte) []byte {
	t.Helper()
	out, e := Scalar(k, u)
	return fine(t, "Scalar", out, e)
}

func shared(t testing.TB, k, u []byte) []byte {
	t.Helper()
	out, e := Shared(k, u)
	return fine(t, "Shared", out, e)
}

func public(t testing.TB, k []byte) []byte {
	t.Helper()
	out, e := Public(k)
	return fine(t, "Public", out, e)
}

// fine fails unless there is no error, and 32 bytes.
func fine(t testing.TB, name string, out []byte, e api.Errno) []byte {
	t.Helper()
	if e != api.OK || len(out) != 32 {
		t.Fatalf("%s answers %x, %v", name, out, e)
	}
	return out
}

// refused fails unless there is that error, and nothing beside it.
func refused(t *testing.T, name string, want api.Errno, out []byte, e api.Errno) {
	t.Helper()
	if e != want || len(out) != 0 {
		t.Errorf("%s answers %x, %v; want %v and nothing", name, out, e, want)
	}
}

// same fails unless two rows are the same.
func same(t *testing.T, name string, got, want []byte) {
	t.Helper()
	if !bytes.Equal(got, want) {
		t.Fatalf("%s: %x, want %x", name, got, want)
	}
}

// keys are bytes 0, bytes 255, single bits, keys that are clamped already, and ones without order.
func keys() [][]byte {
	lowest := append(make([]byte, 31), 64)
	highest := append(append([]byte{248}, bytes.Repeat([]byte{255}, 30)...), 127)
	out := [][]byte{make([]byte, 32), bytes.Repeat([]byte{255}, 32), lowest, highest, bytes.Repeat([]byte{0xaa}, 32), bytes.Repeat([]byte{0x55}, 32)}
	for _, place := range []uint{0, 1, 2, 3, 7, 8, 63, 64, 127, 128, 252, 253, 254, 255} {
		out = append(out, inBytes(power(place)))
	}
	for seed := range 12 {
		out = append(out, row(32, seed))
	}
	return out
}

// points are numbers about 0, p, 2^255 and 2^256, single bits, and ones without order.
func points() [][]byte {
	var out [][]byte
	for _, x := range []*big.Int{new(big.Int), prime(), power(255), new(big.Int).Add(power(255), prime()), power(256)} {
		for n := int64(-20); n <= 20; n++ {
			if y := plus(x, n); y.Sign() >= 0 && y.BitLen() <= 256 {
				out = append(out, inBytes(y))
			}
		}
	}
	for _, place := range []uint{63, 64, 128, 192, 253, 254} {
		out = append(out, inBytes(power(place)))
	}
	for seed := range 12 {
		out = append(out, row(32, 1000+seed))
	}
	return out
}

// smallPoints are those whose secret is of bytes 0 alone, with every key: the points of order 1, 2, 4 and 8
// of the curve and of its twist, those of them that are 0 to 18 with p added too, and each with the highest bit.
func smallPoints(t *testing.T) [][]byte {
	var out [][]byte
	for _, text := range []string{
		"0000000000000000000000000000000000000000000000000000000000000000",
		"0100000000000000000000000000000000000000000000000000000000000000",
		"e0eb7a7c3b41b8ae1656e3faf19fc46ada098deb9c32b1fd866205165f49b800",
		"5f9c95bca3508c24b1d0b1559c83ef5b04445cc4581c8e86d8224eddd09f1157",
		"ecffffffffffffffffffffffffffffffffffffffffffffffffffffffffffff7f",
		"edffffffffffffffffffffffffffffffffffffffffffffffffffffffffffff7f",
		"eeffffffffffffffffffffffffffffffffffffffffffffffffffffffffffff7f",
	} {
		low, high := fromHex(t, text), fromHex(t, text)
		high[31] |= 128
		out = append(out, low, high)
	}
	return out
}

// P6.1: the chapter's example.
func TestExample(t *testing.T) {
	nine := append([]byte{9}, make([]byte, 31)...)
	want := fromHex(t, "422c8e7a6227d7bca1350b3e2bb7279f7897b87bb6854b783c60e80311ae3079")
	same(t, "Scalar of 9 and 9", scalar(t, nine, nine), want)
	same(t, "Public of 9", public(t, nine), want)
	same(t, "Shared of 9 and 9", shared(t, nine, nine), want)
}

// P6.1: the vectors of RFC 7748, 5.2.
func TestStandardVectors(t *testing.T) {
	for _, c := range []struct{ k, u, want string }{
		{
			"a546e36bf0527c9d3b16154b82465edd62144c0ac1fc5a18506a2244ba449ac4",
			"e6db6867583030db3594c1a424b15f7c726624ec26b3353b10a903a6d0ab1c4c",
			"c3da55379de9c6908e94ea4df28d084f32eccf03491c71f754b4075577a28552",
		},
		{
			"4b66e9d4d1b4673c5ad22691957d6af5c11b6421e0ea01d42ca4169e7918ba0d",
			"e5210f12786811d3f4b7959d0538ae2c31dbe7106fc03c3efc4cd549c715a493",
			"95cbde9476e8907d7aade45cb4b873f88b595a68799fa152e6f8f7647aac7957",
		},
	} {
		same(t, "Scalar of "+c.k, scalar(t, fromHex(t, c.k), fromHex(t, c.u)), fromHex(t, c.want))
	}
}

// P6.1: RFC 7748, 5.2: a key and a point that come of each other a thousand times.
func TestStandardThousand(t *testing.T) {
	k := append([]byte{9}, make([]byte, 31)...)
	u := bytes.Clone(k)
	for i := range 1000 {
		k, u = scalar(t, k, u), k
		if i == 0 {
			same(t, "once", k, fromHex(t, "422c8e7a6227d7bca1350b3e2bb7279f7897b87bb6854b783c60e80311ae3079"))
		}
	}
	same(t, "a thousand times", k, fromHex(t, "684cf59ba83309552800ef566f2f4d3c1c3887c49360e3875f2eb94d99532c51"))
}

// P6.1, P6.2: RFC 7748, 6.1: two private keys, their public ones, and their secret.
func TestStandardAgreement(t *testing.T) {
	a := fromHex(t, "77076d0a7318a57d3c16c17251b26645df4c2f87ebc0992ab177fba51db92c2a")
	b := fromHex(t, "5dab087e624a8a4b79e17f8b83800ee66f3bb1292618b6fd1c2f8b27ff88e0eb")
	publicA := fromHex(t, "8520f0098930a754748b7ddcb43ef75a0dbf3a0d26381af4eba4a98eaa9b4e6a")
	publicB := fromHex(t, "de9edb7d7b7dc1b4d35b61c2ece435373f8343c85b78674dadfc7e146f882b4f")
	secret := fromHex(t, "4a5d9d5ba4ce2de1728e3bf480350f25e07e21c947d19e3376f09b3c1e161742")
	same(t, "the one public key", public(t, a), publicA)
	same(t, "the other public key", public(t, b), publicB)
	same(t, "the one secret", shared(t, a, publicB), secret)
	same(t, "the other secret", shared(t, b, publicA), secret)
}

// P6.1: Clamp leaves all bits but five as they were, whatever these were.
func TestClamp(t *testing.T) {
	for _, k := range keys() {
		same(t, "Clamp of "+hex.EncodeToString(k), clamp(t, k), inBytes(plainClamp(k)))
	}
	for first := range 256 {
		for last := range 256 {
			k := row(32, 7)
			k[0], k[31] = byte(first), byte(last)
			want := bytes.Clone(k)
			want[0] = byte(first / 8 * 8)
			want[31] = byte(last%64 + 64)
			same(t, "Clamp of "+hex.EncodeToString(k), clamp(t, k), want)
		}
	}
}

// P6.1: Clamp of bytes 0 and of bytes 255, in full.
func TestClampEnds(t *testing.T) {
	same(t, "Clamp of bytes 0", clamp(t, make([]byte, 32)), append(make([]byte, 31), 64))
	want := append(append([]byte{248}, bytes.Repeat([]byte{255}, 30)...), 127)
	same(t, "Clamp of bytes 255", clamp(t, bytes.Repeat([]byte{255}, 32)), want)
}

// P6.1: a key that is clamped already stays, and counts as the one it came of.
func TestClampedAlready(t *testing.T) {
	for _, k := range keys() {
		clamped := clamp(t, k)
		same(t, "Clamp twice", clamp(t, clamped), clamped)
		same(t, "Public of the clamped key", public(t, clamped), public(t, k))
		u := row(32, 5)
		same(t, "Scalar of the clamped key", scalar(t, clamped, u), scalar(t, k, u))
	}
}

// P6.1: of a key's bits just the five that are clamped change nothing.
func TestEachBitOfAKey(t *testing.T) {
	k := row(32, 3)
	before := public(t, k)
	for place := range 256 {
		other := bytes.Clone(k)
		other[place/8] ^= 1 << (place % 8)
		clamped := place < 3 || place > 253
		if now := public(t, other); bytes.Equal(now, before) != clamped {
			t.Errorf("bit %d of a key: the same public key is %t", place, !clamped)
		}
	}
}

// P6.1: Scalar by the ladder's words, over long numbers.
func TestScalarByItsWords(t *testing.T) {
	few := keys()
	for i, u := range points() {
		for _, k := range [][]byte{few[i%len(few)], few[(i+5)%len(few)], row(32, 100+i)} {
			same(t, "Scalar of "+hex.EncodeToString(k)+" and "+hex.EncodeToString(u), scalar(t, k, u), plainScalar(k, u))
		}
	}
}

// P6.1: points at all edges, each with some keys, by the library's X25519; where that refuses, so does Shared.
func TestByTheLibrary(t *testing.T) {
	all := keys()
	for i, u := range points() {
		for j := range 6 {
			k := all[(i+5*j)%len(all)]
			want := libraryShared(t, k, u)
			if want == nil {
				out, e := Shared(k, u)
				refused(t, "Shared", api.ErrZero, out, e)
				same(t, "Scalar", scalar(t, k, u), make([]byte, 32))
				continue
			}
			same(t, "Scalar", scalar(t, k, u), want)
			same(t, "Shared", shared(t, k, u), want)
		}
	}
}

// P6.1: keys and points without order, by the library's X25519.
func TestMoreByTheLibrary(t *testing.T) {
	for seed := range 500 {
		k, u := row(32, seed), row(32, 5000+seed)
		same(t, "Scalar", scalar(t, k, u), libraryShared(t, k, u))
	}
}

// P6.1: Public is Scalar of the key and 9.
func TestPublic(t *testing.T) {
	nine := append([]byte{9}, make([]byte, 31)...)
	for _, k := range keys() {
		same(t, "Public", public(t, k), plainScalar(k, nine))
		same(t, "Scalar with 9", scalar(t, k, nine), public(t, k))
		private, err := ecdh.X25519().NewPrivateKey(k)
		if err != nil {
			t.Fatal(err)
		}
		same(t, "Public by the library", public(t, k), private.PublicKey().Bytes())
	}
}

// P6.1: points whose secret is of bytes 0 alone: Shared refuses them, Scalar does not.
func TestSecretOfNoughts(t *testing.T) {
	for _, u := range smallPoints(t) {
		for _, k := range keys() {
			out, e := Shared(k, u)
			refused(t, "Shared with "+hex.EncodeToString(u), api.ErrZero, out, e)
			same(t, "Scalar with "+hex.EncodeToString(u), scalar(t, k, u), make([]byte, 32))
		}
	}
}

// P6.1: Shared takes the neighbours of those points, and is what Scalar is.
func TestSharedIsScalar(t *testing.T) {
	small := map[string]int{}
	for _, u := range smallPoints(t) {
		small[string(u)]++
	}
	for _, u := range smallPoints(t) {
		for _, off := range []int64{-1, 1} {
			x := plus(number(u), off)
			if x.Sign() < 0 || small[string(inBytes(x))] > 0 {
				continue
			}
			k := row(32, int(u[0]))
			secret := shared(t, k, inBytes(x))
			same(t, "Shared with a neighbour", secret, scalar(t, k, inBytes(x)))
			if bytes.Equal(secret, make([]byte, 32)) {
				t.Errorf("Shared answers noughts for %x", x)
			}
		}
	}
}

// P6.1: arguments that haven't 32 bytes: none, fewer, more; the one, the other, both.
func TestWrongSizes(t *testing.T) {
	good := row(32, 1)
	sizes := []int{1 << 10, 1 << 16, 1 << 20}
	for n := range 100 {
		sizes = append(sizes, n)
	}
	for _, n := range sizes {
		if n == 32 {
			continue
		}
		// Bytes 0 are a small point as far as they go: ErrArg is told ahead of ErrZero.
		for _, bad := range [][]byte{row(n, n), make([]byte, n), bytes.Repeat([]byte{255}, n)} {
			wrongSize(t, good, bad)
		}
	}
	wrongSize(t, good, nil)
}

// wrongSize holds all calls with a row that hasn't 32 bytes to ErrArg.
func wrongSize(t *testing.T, good, bad []byte) {
	t.Helper()
	out, e := Clamp(bad)
	refused(t, "Clamp", api.ErrArg, out, e)
	out, e = Public(bad)
	refused(t, "Public", api.ErrArg, out, e)
	for _, c := range [][2][]byte{{bad, good}, {good, bad}, {bad, bad}, {bad, make([]byte, 32)}, {make([]byte, 32), bad}, {bad, nil}, {nil, bad}} {
		out, e = Scalar(c[0], c[1])
		refused(t, "Scalar", api.ErrArg, out, e)
		out, e = Shared(c[0], c[1])
		refused(t, "Shared", api.ErrArg, out, e)
	}
}

// P6.1: what lies behind a row in memory doesn't count: not to make 32 bytes full, nor to be more than 32.
func TestRowsEndWhereTheyEnd(t *testing.T) {
	roomK, roomU := row(64, 1), row(64, 2)
	k, u := bytes.Clone(roomK[:32]), bytes.Clone(roomU[:32])
	same(t, "Clamp", clamp(t, roomK[:32]), clamp(t, k))
	same(t, "Public", public(t, roomK[:32]), public(t, k))
	same(t, "Scalar", scalar(t, roomK[:32], roomU[:32]), scalar(t, k, u))
	same(t, "Shared", shared(t, roomK[:32], roomU[:32]), shared(t, k, u))
	for _, n := range []int{0, 31, 33} {
		wrongSize(t, k, roomU[:n])
	}
}

// P6.2: of two private keys each one's Shared with the other one's Public is the same.
func TestAgreement(t *testing.T) {
	all := keys()
	for i, a := range all {
		for _, b := range all[i:] {
			same(t, "the two secrets", shared(t, a, public(t, b)), shared(t, b, public(t, a)))
		}
	}
}

// P6.2: the same of any point, not of 9 alone; and three have one secret, in whatever order.
func TestOrderOfKeys(t *testing.T) {
	for seed := range 20 {
		a, b, c, u := row(32, seed), row(32, 100+seed), row(32, 200+seed), row(32, 300+seed)
		same(t, "two keys turned", scalar(t, a, scalar(t, b, u)), scalar(t, b, scalar(t, a, u)))
		one := shared(t, a, shared(t, b, public(t, c)))
		same(t, "three keys", shared(t, b, shared(t, c, public(t, a))), one)
		same(t, "three keys", shared(t, c, shared(t, a, public(t, b))), one)
	}
}

// P6.2: a point's highest bit changes nothing.
func TestHighestBit(t *testing.T) {
	for _, k := range keys() {
		for seed := range 8 {
			low := row(32, 50+seed)
			low[31] &= 127
			high := bytes.Clone(low)
			high[31] |= 128
			same(t, "Scalar with the highest bit", scalar(t, k, high), scalar(t, k, low))
			same(t, "Shared with the highest bit", shared(t, k, high), shared(t, k, low))
		}
		theirs := public(t, row(32, 9))
		high := bytes.Clone(theirs)
		high[31] |= 128
		same(t, "Shared with a public key", shared(t, k, high), shared(t, k, theirs))
	}
}

// P6.2: p added to a point changes nothing: of 0 to 18 there is room for it.
func TestPrimeAdded(t *testing.T) {
	for n := range int64(19) {
		u := inBytes(big.NewInt(n))
		more := inBytes(plus(prime(), n))
		high := inBytes(plus(new(big.Int).Add(power(255), prime()), n))
		for _, k := range keys()[:8] {
			want, wantErr := Shared(k, u)
			for _, other := range [][]byte{more, high} {
				same(t, "Scalar with p added", scalar(t, k, other), scalar(t, k, u))
				got, e := Shared(k, other)
				if e != wantErr || !bytes.Equal(got, want) {
					t.Fatalf("Shared with %x: %x, %v; want %x, %v", other, got, e, want, wantErr)
				}
			}
		}
	}
}

// P6.2: 9 with p added is the point that public keys are of.
func TestPublicOfPrimeAdded(t *testing.T) {
	k := row(32, 4)
	same(t, "Scalar with 9 + p", scalar(t, k, inBytes(plus(prime(), 9))), public(t, k))
}

// calls are all calls that answer bytes of two rows.
func calls() map[string]func(k, u []byte) ([]byte, api.Errno) {
	return map[string]func(k, u []byte) ([]byte, api.Errno){
		"Clamp":  func(k, _ []byte) ([]byte, api.Errno) { return Clamp(k) },
		"Scalar": Scalar,
		"Shared": Shared,
		"Public": func(k, _ []byte) ([]byte, api.Errno) { return Public(k) },
	}
}

// P6.1: answers are new memory, and arguments stay as they were, also those that are refused.
func TestNewMemory(t *testing.T) {
	for name, call := range calls() {
		for _, n := range []int{31, 32, 33} {
			roomK, roomU := row(96, 1), row(96, 2)
			k, u := roomK[:n], roomU[:n]
			beforeK, beforeU := bytes.Clone(roomK), bytes.Clone(roomU)
			first, e := call(k, u)
			if (e == api.OK) != (n == 32) {
				t.Fatalf("%s of %d bytes: %v", name, n, e)
			}
			kept := bytes.Clone(first)
			second, _ := call(k, u)
			spoil(first)
			same(t, name+": the key", roomK, beforeK)
			same(t, name+": the point", roomU, beforeU)
			same(t, name+": another answer", second, kept)
			spoil(roomK)
			spoil(roomU)
			same(t, name+": an answer, when arguments change", second, kept)
		}
	}
}

// P6.1: one row may be both key and point, and rows may lie over each other.
func TestSharedArguments(t *testing.T) {
	room := row(64, 6)
	before := bytes.Clone(room)
	for off := range 33 {
		k, u := room[:32], room[off:off+32]
		want := plainScalar(bytes.Clone(k), bytes.Clone(u))
		same(t, "Scalar of rows over each other", scalar(t, k, u), want)
		same(t, "Shared of rows over each other", shared(t, k, u), want)
		same(t, "what was handed in", room, before)
	}
}

// P6.1: a refused small point stays as it was too.
func TestRefusedStays(t *testing.T) {
	for _, u := range smallPoints(t) {
		k, before := row(32, 8), bytes.Clone(u)
		out, e := Shared(k, u)
		refused(t, "Shared", api.ErrZero, out, e)
		same(t, "the point", u, before)
		same(t, "the key", k, row(32, 8))
	}
}

// Rule 4: the same calls have the same answers, whatever was asked between.
func TestAgain(t *testing.T) {
	for name, call := range calls() {
		k, u := row(32, 1), row(32, 2)
		first, _ := call(k, u)
		for _, other := range append(smallPoints(t), nil, row(31, 3)) {
			call(k, other)
			call(other, u)
		}
		again, e := call(k, u)
		same(t, name+" again", fine(t, name, again, e), first)
	}
}

// FuzzCurve holds Scalar and Shared of any rows to the promise's words.
func FuzzCurve(f *testing.F) {
	f.Add(make([]byte, 32), make([]byte, 32))
	f.Add(row(32, 1), bytes.Repeat([]byte{255}, 32))
	f.Add(row(31, 1), row(33, 1))
	f.Fuzz(func(t *testing.T, k, u []byte) {
		got, e := Scalar(k, u)
		secret, sharedErr := Shared(k, u)
		if len(k) != 32 || len(u) != 32 {
			refused(t, "Scalar", api.ErrArg, got, e)
			refused(t, "Shared", api.ErrArg, secret, sharedErr)
			return
		}
		same(t, "Scalar", fine(t, "Scalar", got, e), plainScalar(k, u))
		if bytes.Equal(got, make([]byte, 32)) {
			refused(t, "Shared", api.ErrZero, secret, sharedErr)
			return
		}
		same(t, "Shared", fine(t, "Shared", secret, sharedErr), got)
	})
}

// BenchmarkScalar tells what a handshake's secrets stand on.
func BenchmarkScalar(b *testing.B) {
	k, u := row(32, 1), row(32, 2)
	for range b.N {
		u = scalar(b, k, u)
	}
}
