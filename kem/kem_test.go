package kem

import (
	"bytes"
	"crypto/mlkem"
	"crypto/mlkem/mlkemtest"
	"crypto/sha3"
	"encoding/hex"
	"strconv"
	"testing"

	"redan/api"
	"redan/kpke"
)

// q is the number of the chapters, not the program's own.
const q = 3329

// right fails unless bytes are the right ones, and there is no error.
func right(t *testing.T, got []byte, e api.Errno, want []byte, name string, of ...any) {
	t.Helper()
	if e != api.OK {
		t.Fatalf("%s %v: error %d", name, of, int(e))
	}
	sameBytes(t, got, want, name, of...)
}

// sameBytes fails unless bytes are the right ones.
func sameBytes(t *testing.T, got, want []byte, name string, of ...any) {
	t.Helper()
	if len(got) != len(want) {
		t.Fatalf("%s %v: %d bytes, want %d", name, of, len(got), len(want))
	}
	for i := range got {
		if got[i] != want[i] {
			t.Fatalf("%s %v: %x at %d, want %x", name, of, got[i], i, want[i])
		}
	}
}

// told fails unless the error is the right one, with nothing beside it.
func told(t *testing.T, e, want api.Errno, name string, of any, got ...[]byte) {
	t.Helper()
	if e != want {
		t.Fatalf("%s of %v: error %d, want %d", name, of, int(e), int(want))
	}
	for i := range got {
		if len(got[i]) != 0 {
			t.Fatalf("%s of %v: %d bytes beside the error", name, of, len(got[i]))
		}
	}
}

// run is n times one byte.
func run(n int, c byte) []byte { return bytes.Repeat([]byte{c}, n) }

// mess are n bytes without order.
func mess(seed string, n int) []byte { return sha3.SumSHAKE256([]byte(seed), n) }

// runs are n bytes of all kinds: all 0, all 255, the first or the last one alone, and some without order.
func runs(name string, n, messes int) [][]byte {
	first, last := run(n, 0), run(n, 0)
	first[0], last[n-1] = 1, 128
	out := [][]byte{run(n, 0), run(n, 255), run(n, 1), first, last}
	for k := range messes {
		out = append(out, mess(name+strconv.Itoa(k), n))
	}
	return out
}

// join are rows, one behind the other.
func join(l ...[]byte) []byte { return bytes.Join(l, nil) }

// turned is a row with one byte changed.
func turned(b []byte, at int, by byte) []byte {
	out := bytes.Clone(b)
	out[at] ^= by
	return out
}

// h is the chapter's H, and g its G in two halves.
func h(b []byte) []byte {
	sum := sha3.Sum256(b)
	return sum[:]
}

func g(m, sum []byte) ([]byte, []byte) {
	both := sha3.Sum512(join(m, sum))
	return both[:32], both[32:]
}

// plainEncaps says P14.3's words, of a key that may be.
func plainEncaps(t *testing.T, ek, m []byte) ([]byte, []byte) {
	t.Helper()
	k, r := g(m, h(ek))
	c, e := kpke.Enc(ek, m, r)
	if e != api.OK {
		t.Fatalf("kpke.Enc: error %d", int(e))
	}
	return k, c
}

// plainOther says P14.4's words of what was not sealed by a key.
func plainOther(dk, c []byte) []byte { return sha3.SumSHAKE256(join(dk[2368:], c), 32) }

// plainDecaps says P14.4's words, of a key that may be; and whether c was sealed by it.
func plainDecaps(t *testing.T, dk, c []byte) ([]byte, bool) {
	t.Helper()
	m, e := kpke.Dec(dk[:1152], c)
	if e != api.OK {
		t.Fatalf("kpke.Dec: error %d", int(e))
	}
	k, r := g(m, dk[2336:2368])
	again, e := kpke.Enc(dk[1152:2336], m, r)
	if e != api.OK {
		t.Fatalf("kpke.Enc: error %d", int(e))
	}
	if bytes.Equal(again, c) {
		return k, true
	}
	return plainOther(dk, c), false
}

// keys are those of a name's seeds.
func keys(t *testing.T, name string) ([]byte, []byte) {
	t.Helper()
	ek, dk, e := Gen(mess(name+" d", 32), mess(name+" z", 32))
	if len(ek) != 1184 || len(dk) != 2400 || e != api.OK {
		t.Fatalf("Gen: %d bytes, %d bytes, error %d", len(ek), len(dk), int(e))
	}
	return ek, dk
}

// standard is the private key of FIPS 203 of two seeds.
func standard(t *testing.T, d, z []byte) *mlkem.DecapsulationKey768 {
	t.Helper()
	key, err := mlkem.NewDecapsulationKey768(join(d, z))
	if err != nil {
		t.Fatal(err)
	}
	return key
}

// wrong are sizes that are not the right one.
func wrong(size int) []int {
	out := []int{}
	for _, n := range []int{0, 1, size - 1, size + 1, size / 2, 2 * size, 16, 31, 32, 33, 64, 1088, 1152, 1184, 2336, 2400, 100000} {
		if n != size {
			out = append(out, n)
		}
	}
	return out
}

// number is a public key's number at a place.
func number(ek []byte, place int) int {
	at := place / 2 * 3
	if place%2 == 0 {
		return int(ek[at]) + 256*int(ek[at+1]%16)
	}
	return int(ek[at+1]/16) + 16*int(ek[at+2])
}

// numbered is a public key with another number at a place.
func numbered(ek []byte, place, x int) []byte {
	out := bytes.Clone(ek)
	at := place / 2 * 3
	if place%2 == 0 {
		out[at], out[at+1] = byte(x), out[at+1]&0xf0|byte(x>>8)
	} else {
		out[at+1], out[at+2] = out[at+1]&0x0f|byte(x<<4), byte(x>>4)
	}
	return out
}

// beyond is a public key with q added to the first number that has room for it: it encrypts as the other one does.
func beyond(t *testing.T, ek []byte) []byte {
	t.Helper()
	for place := range 768 {
		if x := number(ek, place); x+q < 4096 {
			return numbered(ek, place, x+q)
		}
	}
	t.Fatal("the key has no number to which q can be added")
	return nil
}

// ends are the first and the last places of the thirds of a public key's numbers.
var ends = []int{0, 255, 256, 511, 512, 767}

// P14.2: the chapter's example.
func TestExamples(t *testing.T) {
	told(t, Check(run(1184, 255)), api.ErrKey, "Check", "1184 bytes 255")
}

// P14.1: seeds of all kinds: the public key is kpke's, and the private one has four parts.
func TestGen(t *testing.T) {
	for i, d := range runs("d", 32, 6) {
		for j, z := range runs("z", 32, 3) {
			wantEk, secret, _ := kpke.Gen(d)
			ek, dk, e := Gen(d, z)
			right(t, ek, e, wantEk, "Gen's public key", i, j)
			right(t, dk, e, join(secret, wantEk, h(wantEk), z), "Gen's private key", i, j)
			if len(dk) != api.DkSize || len(ek) != api.EkSize {
				t.Fatalf("Gen: %d and %d bytes", len(ek), len(dk))
			}
		}
	}
}

// P14.1: the first seed makes the keys, and the second one is their last part alone.
func TestGenParts(t *testing.T) {
	ek, dk, _ := Gen(mess("d", 32), mess("z", 32))
	ek2, dk2, e := Gen(mess("d", 32), mess("other", 32))
	right(t, ek2, e, ek, "the public key, of another z")
	right(t, dk2[:2368], e, dk[:2368], "the private key, of another z")
	sameBytes(t, dk2[2368:], mess("other", 32), "z")
	ek3, dk3, _ := Gen(mess("z", 32), mess("d", 32))
	if bytes.Equal(ek3, ek) || bytes.Equal(dk3[:1152], dk[:1152]) {
		t.Fatal("the seeds turned round have the same keys")
	}
}

// P14.1: seeds that are too short, too long, none; one of them alone, and both.
func TestGenRefused(t *testing.T) {
	sizes := [][]int{{0, 0}, {31, 31}, {33, 33}, {31, 33}, {33, 31}, {0, 64}, {64, 0}}
	for _, n := range wrong(32) {
		sizes = append(sizes, []int{n, 32}, []int{32, n})
	}
	for _, size := range sizes {
		for _, c := range []byte{0, 255} {
			ek, dk, e := Gen(run(size[0], c), run(size[1], c))
			told(t, e, api.ErrArg, "Gen", size, ek, dk)
		}
	}
	ek, dk, e := Gen(nil, run(32, 5))
	told(t, e, api.ErrArg, "Gen", "nil, 32", ek, dk)
	ek, dk, e = Gen(run(32, 5), nil)
	told(t, e, api.ErrArg, "Gen", "32, nil", ek, dk)
}

// P14.2: keys that Gen made may be, and all whose numbers are below q.
func TestCheckOfGoodKeys(t *testing.T) {
	for k, d := range runs("good", 32, 10) {
		ek, dk, _ := Gen(d, mess("z", 32))
		told(t, Check(ek), api.OK, "Check of a seed's key", k)
		told(t, CheckPrivate(dk), api.OK, "CheckPrivate of a seed's key", k)
	}
	told(t, Check(run(1184, 0)), api.OK, "Check", "1184 bytes 0")
	most := run(1184, 9)
	for place := range 768 {
		most = numbered(most, place, q-1)
	}
	told(t, Check(most), api.OK, "Check", "numbers q - 1 alone")
}

// P14.2: one number about q, or from q on, in each third, at its first and its last place, among others 0,
// among the greatest that may be, and among a seed's.
func TestCheckOfOneNumber(t *testing.T) {
	seeds, _ := keys(t, "one number")
	most := run(1184, 0)
	for place := range 768 {
		most = numbered(most, place, q-1)
	}
	for name, ek := range map[string][]byte{"a seed's": seeds, "0": run(1184, 0), "q - 1": most} {
		for _, place := range append([]int{1, 2, 100, 254, 257, 300, 510, 513, 700, 766}, ends...) {
			for _, x := range []int{0, 1, 255, 256, 3327, 3328, 3329, 3330, 3584, 3840, 4094, 4095} {
				want := api.OK
				if x >= q {
					want = api.ErrKey
				}
				told(t, Check(numbered(ek, place, x)), want, "Check among "+name, []int{place, x})
			}
		}
	}
}

// P14.2: every number from q on is refused at every place's kind, as the standard refuses it.
func TestCheckIsTheStandards(t *testing.T) {
	ek, _ := keys(t, "standard")
	for x := q - 40; x < 4096; x++ {
		for _, place := range []int{0, 767} {
			key := numbered(ek, place, x)
			_, err := mlkem.NewEncapsulationKey768(key)
			if e := Check(key); (e == api.OK) != (err == nil) || (e == api.OK) != (x < q) {
				t.Fatalf("Check of %d at %d: error %d, the standard's %v", x, place, int(e), err)
			}
		}
	}
	for place := range 768 {
		told(t, Check(numbered(ek, place, q-1)), api.OK, "Check of q - 1 at", place)
		told(t, Check(numbered(ek, place, q)), api.ErrKey, "Check of q at", place)
	}
}

// P14.2: any bytes behind the first 1152 may be, and mend nothing.
func TestCheckBehind(t *testing.T) {
	ek, _ := keys(t, "behind")
	bad := numbered(ek, 767, q)
	for k, rho := range runs("behind", 32, 5) {
		told(t, Check(join(ek[:1152], rho)), api.OK, "Check with bytes behind", k)
		told(t, Check(join(bad[:1152], rho)), api.ErrKey, "Check of a bad key with bytes behind", k)
	}
}

// P14.2: keys that are too short, too long, none: whatever their bytes are, it is the size that is told.
func TestCheckRefused(t *testing.T) {
	for _, c := range []byte{0, 5, 255} {
		for _, n := range wrong(1184) {
			told(t, Check(run(n, c)), api.ErrArg, "Check", n)
		}
		for _, n := range wrong(2400) {
			told(t, CheckPrivate(run(n, c)), api.ErrArg, "CheckPrivate", n)
		}
	}
	told(t, Check(nil), api.ErrArg, "Check", nil)
	told(t, CheckPrivate(nil), api.ErrArg, "CheckPrivate", nil)
	ek, dk := keys(t, "cut")
	told(t, Check(ek[:1183]), api.ErrArg, "Check", "a key without its last byte")
	told(t, Check(append(bytes.Clone(ek), 0)), api.ErrArg, "Check", "a key and a byte")
	told(t, CheckPrivate(dk[:2399]), api.ErrArg, "CheckPrivate", "a key without its last byte")
	told(t, CheckPrivate(append(bytes.Clone(dk), 0)), api.ErrArg, "CheckPrivate", "a key and a byte")
	told(t, CheckPrivate(run(2400, 0)), api.ErrKey, "CheckPrivate", "2400 bytes 0")
	told(t, CheckPrivate(run(2400, 255)), api.ErrKey, "CheckPrivate", "2400 bytes 255")
}

// P14.2: a byte turned in each of a private key's four parts: the public key and its sum are held to each other.
func TestCheckPrivateOfATurnedByte(t *testing.T) {
	_, dk := keys(t, "turned")
	for _, at := range []int{0, 1, 600, 1151, 1152, 1153, 2000, 2303, 2304, 2334, 2335, 2336, 2337, 2350, 2366, 2367, 2368, 2369, 2399} {
		want := api.OK
		if at >= 1152 && at < 2368 {
			want = api.ErrKey
		}
		for _, by := range []byte{1, 128, 255} {
			told(t, CheckPrivate(turned(dk, at, by)), want, "CheckPrivate of a byte turned", []int{at, int(by)})
		}
	}
}

// P14.2: a private key's public one is held to its sum alone: any bytes may be.
func TestCheckPrivateOfAnyBytes(t *testing.T) {
	for k, ek := range runs("any", 1184, 4) {
		dk := join(run(1152, 255), ek, h(ek), run(32, byte(k)))
		told(t, CheckPrivate(dk), api.OK, "CheckPrivate of any bytes and their sum", k)
	}
}

// P14.3: a secret and what it is sealed in, of keys and chance of all kinds.
func TestEncaps(t *testing.T) {
	first, _ := keys(t, "first")
	second, _ := keys(t, "second")
	for i, ek := range [][]byte{first, second, run(1184, 0), join(first[:1152], run(32, 255)), numbered(second, 0, q-1)} {
		for j, m := range runs("m", 32, 4) {
			wantK, wantC := plainEncaps(t, ek, m)
			k, c, e := Encaps(ek, m)
			right(t, k, e, wantK, "Encaps' secret", i, j)
			right(t, c, e, wantC, "Encaps' sealing", i, j)
			if len(k) != api.KeySize || len(c) != api.CtSize {
				t.Fatalf("Encaps: %d and %d bytes", len(k), len(c))
			}
		}
	}
}

// P14.3: the secret hangs on all of the key: on what isn't held to any rule too.
func TestEncapsHangsOnTheKey(t *testing.T) {
	ek, _ := keys(t, "hangs")
	m := mess("m", 32)
	seen := map[string]int{}
	for _, key := range [][]byte{ek, turned(ek, 1152, 1), turned(ek, 1183, 1), numbered(ek, 0, 1), numbered(ek, 767, 1)} {
		k, c, e := Encaps(key, m)
		if e != api.OK {
			t.Fatal(e)
		}
		seen[string(k)]++
		seen[string(c)]++
	}
	if len(seen) != 10 {
		t.Fatalf("%d secrets and sealings, want 10", len(seen))
	}
}

// P14.3: keys with a number from q on; that one is told behind wrong sizes.
func TestEncapsOfBadKeys(t *testing.T) {
	ek, _ := keys(t, "bad")
	m := mess("m", 32)
	for _, place := range ends {
		for _, x := range []int{3329, 4095} {
			bad := numbered(ek, place, x)
			k, c, e := Encaps(bad, m)
			told(t, e, api.ErrKey, "Encaps", []int{place, x}, k, c)
			for _, n := range []int{0, 31, 33} {
				k, c, e = Encaps(bad, run(n, 5))
				told(t, e, api.ErrArg, "Encaps with too few or too many bytes of chance", []int{place, x, n}, k, c)
			}
		}
	}
	k, c, e := Encaps(run(1184, 255), m)
	told(t, e, api.ErrKey, "Encaps", "1184 bytes 255", k, c)
	k, c, e = Encaps(beyond(t, ek), m)
	told(t, e, api.ErrKey, "Encaps", "a key with q added to a number", k, c)
}

// P14.3: keys and chance that are too short, too long, none; one of them alone, and both.
func TestEncapsRefused(t *testing.T) {
	sizes := [][]int{{0, 0}, {1183, 31}, {1185, 33}, {1183, 33}, {1185, 31}, {32, 1184}, {1216, 0}}
	for _, n := range wrong(1184) {
		sizes = append(sizes, []int{n, 32})
	}
	for _, n := range wrong(32) {
		sizes = append(sizes, []int{1184, n})
	}
	for _, size := range sizes {
		for _, c := range []byte{0, 255} {
			k, sealing, e := Encaps(run(size[0], c), run(size[1], c))
			told(t, e, api.ErrArg, "Encaps", size, k, sealing)
		}
	}
	k, c, e := Encaps(nil, run(32, 5))
	told(t, e, api.ErrArg, "Encaps", "nil, 32", k, c)
	k, c, e = Encaps(run(1184, 0), nil)
	told(t, e, api.ErrArg, "Encaps", "1184, nil", k, c)
}

// P14.4: what Encaps told is opened to its secret, with keys and chance of all kinds.
func TestDecapsOfEncaps(t *testing.T) {
	for i, d := range runs("d", 32, 3) {
		ek, dk, _ := Gen(d, mess("z", 32))
		for j, m := range runs("m", 32, 3) {
			k, c, _ := Encaps(ek, m)
			want, ok := plainDecaps(t, dk, c)
			if !ok {
				t.Fatalf("what was sealed isn't what it is sealed in again: %d, %d", i, j)
			}
			got, e := Decaps(dk, c)
			right(t, got, e, want, "Decaps", i, j)
			right(t, got, e, k, "Decaps' secret", i, j)
		}
	}
}

// P14.4: what was sealed with a byte turned, at its first and its last place and between, and any other bytes:
// a secret of z and of them, and no error.
func TestDecapsOfOtherBytes(t *testing.T) {
	ek, dk := keys(t, "other")
	k, c, _ := Encaps(ek, mess("m", 32))
	others := runs("other", 1088, 6)
	for _, at := range []int{0, 1, 319, 320, 639, 640, 959, 960, 961, 1000, 1086, 1087} {
		for _, by := range []byte{1, 16, 128, 255} {
			others = append(others, turned(c, at, by))
		}
	}
	seen := map[string]int{string(k): 1}
	for i, other := range others {
		want, ok := plainDecaps(t, dk, other)
		if ok {
			t.Fatalf("%d was sealed by the key", i)
		}
		got, e := Decaps(dk, other)
		right(t, got, e, want, "Decaps of other bytes", i)
		right(t, got, e, plainOther(dk, other), "the secret of z and other bytes", i)
		seen[string(got)]++
	}
	if len(seen) != len(others)+1 {
		t.Fatalf("%d secrets of %d rows", len(seen), len(others)+1)
	}
}

// P14.4: each single bit of what was sealed counts.
func TestDecapsOfEachByteTurned(t *testing.T) {
	ek, dk := keys(t, "each")
	_, c, _ := Encaps(ek, mess("m", 32))
	for at := range 1088 {
		other := turned(c, at, 1<<(at%8))
		got, e := Decaps(dk, other)
		right(t, got, e, plainOther(dk, other), "Decaps with a bit turned at", at)
	}
}

// P14.4: what was sealed under another key.
func TestDecapsUnderAnotherKey(t *testing.T) {
	ek, dk := keys(t, "one")
	otherEk, otherDk := keys(t, "another")
	k, c, _ := Encaps(ek, mess("m", 32))
	otherK, otherC, _ := Encaps(otherEk, mess("m", 32))
	got, e := Decaps(otherDk, c)
	right(t, got, e, plainOther(otherDk, c), "Decaps by another key")
	got, e = Decaps(dk, otherC)
	right(t, got, e, plainOther(dk, otherC), "Decaps of another key's")
	got, e = Decaps(dk, c)
	right(t, got, e, k, "Decaps by the right key")
	got, e = Decaps(otherDk, otherC)
	right(t, got, e, otherK, "Decaps by the other key")
}

// P14.4: encrypted under the key, but with chance of its own: it isn't what is sealed again.
func TestDecapsOfOtherChance(t *testing.T) {
	ek, dk := keys(t, "chance")
	m := mess("m", 32)
	for k, r := range runs("chance", 32, 3) {
		c, _ := kpke.Enc(ek, m, r)
		got, e := Decaps(dk, c)
		right(t, got, e, plainOther(dk, c), "Decaps of other chance", k)
	}
}

// P14.4: a byte turned in each of a private key's four parts.
func TestDecapsByATurnedKey(t *testing.T) {
	ek, dk := keys(t, "turned")
	k, c, _ := Encaps(ek, mess("m", 32))
	other := turned(c, 500, 1)
	for _, at := range []int{1152, 1153, 2000, 2303, 2304, 2335, 2336, 2350, 2367} {
		got, e := Decaps(turned(dk, at, 1), c)
		told(t, e, api.ErrKey, "Decaps by a key with a byte turned at", at, got)
		got, e = Decaps(turned(dk, at, 1), c[:1087])
		told(t, e, api.ErrArg, "Decaps of too few bytes by a key with a byte turned at", at, got)
		got, e = Decaps(turned(dk, at, 1), append(bytes.Clone(c), 0))
		told(t, e, api.ErrArg, "Decaps of too many bytes by a key with a byte turned at", at, got)
	}
	for _, at := range []int{0, 1, 2, 383, 384, 600, 767, 768, 1150, 1151} {
		for _, by := range []byte{1, 128} {
			bad := turned(dk, at, by)
			want, _ := plainDecaps(t, bad, c)
			got, e := Decaps(bad, c)
			right(t, got, e, want, "Decaps by a key that decrypts otherwise", at, by)
		}
	}
	for _, at := range []int{2368, 2369, 2380, 2399} {
		bad := turned(dk, at, 1)
		got, e := Decaps(bad, c)
		right(t, got, e, k, "Decaps of what was sealed, by a key of another z", at)
		got, e = Decaps(bad, other)
		right(t, got, e, plainOther(bad, other), "Decaps of other bytes, by a key of another z", at)
		if was, _ := Decaps(dk, other); bytes.Equal(was, got) {
			t.Fatalf("z's byte %d tells nothing", at)
		}
	}
}

// P14.4: a private key whose public one has a number from q on, with the sum of that: Check's rule isn't asked of it.
func TestDecapsByAKeyFromQOn(t *testing.T) {
	ek, dk := keys(t, "from q on")
	bad := beyond(t, ek)
	key := join(dk[:1152], bad, h(bad), dk[2368:])
	k, c := plainEncaps(t, bad, mess("m", 32))
	got, e := Decaps(key, c)
	right(t, got, e, k, "Decaps by a key with a number from q on")
	_, own, _ := Encaps(ek, mess("m", 32))
	got, e = Decaps(key, own)
	right(t, got, e, plainOther(key, own), "Decaps of what the other key sealed")
}

// P14.4: private keys of any bytes with their sums.
func TestDecapsByAnyBytes(t *testing.T) {
	for i, secret := range runs("secret", 1152, 2) {
		for j, ek := range runs("public", 1184, 2) {
			dk := join(secret, ek, h(ek), mess("z", 32))
			c := mess(strconv.Itoa(i*100+j), 1088)
			want, _ := plainDecaps(t, dk, c)
			got, e := Decaps(dk, c)
			right(t, got, e, want, "Decaps by any bytes", i, j)
		}
	}
	// A key 0 decrypts to the message that V tells, and so there is something that was sealed by it.
	ek := run(1184, 0)
	for _, z := range []byte{0, 255} {
		k, c, _ := Encaps(ek, mess("m", 32))
		got, e := Decaps(join(run(1152, 0), ek, h(ek), run(32, z)), c)
		right(t, got, e, k, "Decaps by a key 0", z)
	}
}

// P14.4: keys and what is opened that are too short, too long, none; one of them alone, and both.
func TestDecapsRefused(t *testing.T) {
	sizes := [][]int{{0, 0}, {2399, 1087}, {2401, 1089}, {2399, 1089}, {2401, 1087}, {1088, 2400}, {1152, 1088}}
	for _, n := range wrong(2400) {
		sizes = append(sizes, []int{n, 1088})
	}
	for _, n := range wrong(1088) {
		sizes = append(sizes, []int{2400, n})
	}
	for _, size := range sizes {
		for _, c := range []byte{0, 255} {
			k, e := Decaps(run(size[0], c), run(size[1], c))
			told(t, e, api.ErrArg, "Decaps", size, k)
		}
	}
	for _, c := range []byte{0, 255} {
		k, e := Decaps(run(2400, c), run(1088, c))
		told(t, e, api.ErrKey, "Decaps by a key of bytes", c, k)
	}
	ek, dk := keys(t, "refused")
	_, c, _ := Encaps(ek, mess("m", 32))
	k, e := Decaps(nil, c)
	told(t, e, api.ErrArg, "Decaps", "nil, 1088", k)
	k, e = Decaps(dk, nil)
	told(t, e, api.ErrArg, "Decaps", "2400, nil", k)
	k, e = Decaps(dk, c[:1087])
	told(t, e, api.ErrArg, "Decaps", "a sealing without its last byte", k)
	k, e = Decaps(dk, append(bytes.Clone(c), 0))
	told(t, e, api.ErrArg, "Decaps", "a sealing and a byte", k)
}

// P14.1 to P14.4: keys, secrets and sealings are those of FIPS 203, and so are secrets of what wasn't sealed.
func TestAllIsTheStandards(t *testing.T) {
	for i, d := range runs("standard d", 32, 10) {
		z, m := mess("standard z"+strconv.Itoa(i), 32), mess("standard m"+strconv.Itoa(i), 32)
		key := standard(t, d, z)
		wantK, wantC, err := mlkemtest.Encapsulate768(key.EncapsulationKey(), m)
		if err != nil {
			t.Fatal(err)
		}
		ek, dk, e := Gen(d, z)
		right(t, ek, e, key.EncapsulationKey().Bytes(), "Gen's public key", i)
		k, c, e := Encaps(ek, m)
		right(t, k, e, wantK, "Encaps' secret", i)
		right(t, c, e, wantC, "Encaps' sealing", i)
		for j, other := range append(runs("standard c", 1088, 2), c, turned(c, 0, 1), turned(c, 1087, 128)) {
			want, err := key.Decapsulate(other)
			if err != nil {
				t.Fatal(err)
			}
			got, e := Decaps(dk, other)
			right(t, got, e, want, "Decaps", i, j)
		}
	}
}

// P14.1 to P14.4: the sum of what 100 keys tell, which is published with the standard's other programs.
func TestAccumulated(t *testing.T) {
	in, out := sha3.NewSHAKE128(), sha3.NewSHAKE128()
	draw := func(n int) []byte {
		b := make([]byte, n)
		in.Read(b)
		return b
	}
	for i := range 100 {
		d, z := draw(32), draw(32)
		ek, dk, _ := Gen(d, z)
		out.Write(ek)
		k, c, _ := Encaps(ek, draw(32))
		out.Write(c)
		out.Write(k)
		got, e := Decaps(dk, c)
		right(t, got, e, k, "Decaps", i)
		got, _ = Decaps(dk, draw(1088))
		out.Write(got)
	}
	sum := make([]byte, 32)
	out.Read(sum)
	if got := hex.EncodeToString(sum); got != "1114b1b6699ed191734fa339376afa7e285c9e6acf6ff0177d346696ce564415" {
		t.Fatalf("the sum is %s", got)
	}
}

// roomy is a row with bytes behind it that are within its room.
func roomy(b []byte) []byte { return append(bytes.Clone(b), run(3000, 99)...)[:len(b)] }

// untouched fails unless a row and what lies behind it are as roomy made them.
func untouched(t *testing.T, got, was []byte, name string) {
	t.Helper()
	sameBytes(t, got, was, name)
	sameBytes(t, got[len(got):len(got)+3000], run(3000, 99), "behind "+name)
}

// P14.5: what is handed in is left as it was, and the bytes behind it too.
func TestNothingIsChanged(t *testing.T) {
	d, z, m := mess("d", 32), mess("z", 32), mess("m", 32)
	ek, dk, _ := Gen(d, z)
	k, c, _ := Encaps(ek, m)
	other := turned(c, 7, 1)
	d2, z2, m2, ek2, dk2, c2, other2 := roomy(d), roomy(z), roomy(m), roomy(ek), roomy(dk), roomy(c), roomy(other)
	ek3, dk3, e := Gen(d2, z2)
	right(t, ek3, e, ek, "Gen again")
	right(t, dk3, e, dk, "Gen again")
	told(t, Check(ek2), api.OK, "Check", "the public key")
	told(t, CheckPrivate(dk2), api.OK, "CheckPrivate", "the private key")
	k3, c3, e := Encaps(ek2, m2)
	right(t, k3, e, k, "Encaps again")
	right(t, c3, e, c, "Encaps again")
	k3, e = Decaps(dk2, c2)
	right(t, k3, e, k, "Decaps again")
	k3, e = Decaps(dk2, other2)
	right(t, k3, e, plainOther(dk, other), "Decaps of other bytes again")
	untouched(t, d2, d, "Gen's d")
	untouched(t, z2, z, "Gen's z")
	untouched(t, m2, m, "Encaps' m")
	untouched(t, ek2, ek, "Check's and Encaps' ek")
	untouched(t, dk2, dk, "CheckPrivate's and Decaps' dk")
	untouched(t, c2, c, "Decaps' c")
	untouched(t, other2, other, "Decaps' other c")
}

// P14.5: bad keys are left as they were too.
func TestNothingIsChangedByErrors(t *testing.T) {
	ek, dk := keys(t, "errors")
	bad, badDk := numbered(ek, 300, 4095), turned(dk, 2336, 1)
	bad2, badDk2, m2, c2 := roomy(bad), roomy(badDk), roomy(mess("m", 32)), roomy(mess("c", 1088))
	told(t, Check(bad2), api.ErrKey, "Check", "a bad key")
	told(t, CheckPrivate(badDk2), api.ErrKey, "CheckPrivate", "a bad key")
	k, c, e := Encaps(bad2, m2)
	told(t, e, api.ErrKey, "Encaps", "a bad key", k, c)
	k, e = Decaps(badDk2, c2)
	told(t, e, api.ErrKey, "Decaps", "a bad key", k)
	untouched(t, bad2, bad, "a bad public key")
	untouched(t, badDk2, badDk, "a bad private key")
	untouched(t, m2, mess("m", 32), "m")
	untouched(t, c2, mess("c", 1088), "c")
}

// spoil changes all bytes of a row, and all within its room behind it.
func spoil(b []byte) {
	b = b[:cap(b)]
	for i := range b {
		b[i] ^= 255
	}
}

// P14.5: whoever changes an answer, or what was handed in, changes nothing else.
func TestNewMemory(t *testing.T) {
	wantEk, wantDk := keys(t, "memory")
	wantEk, wantDk = bytes.Clone(wantEk), bytes.Clone(wantDk)
	d, z, m := mess("memory d", 32), mess("memory z", 32), mess("m", 32)
	ek, dk, _ := Gen(d, z)
	spoil(d)
	spoil(z)
	sameBytes(t, ek, wantEk, "the public key, after the seeds were changed")
	sameBytes(t, dk, wantDk, "the private key, after the seeds were changed")
	spoil(ek)
	sameBytes(t, dk, wantDk, "the private key, after the public one was changed")
	ek, dk, _ = Gen(mess("memory d", 32), mess("memory z", 32))
	spoil(dk)
	sameBytes(t, ek, wantEk, "the public key, after the private one was changed")
	dk = bytes.Clone(wantDk)
	wantK, wantC := plainEncaps(t, wantEk, m)
	k, c, _ := Encaps(ek, m)
	spoil(ek)
	spoil(m)
	sameBytes(t, k, wantK, "the secret, after what it is of was changed")
	sameBytes(t, c, wantC, "the sealing, after what it is of was changed")
	spoil(k)
	sameBytes(t, c, wantC, "the sealing, after the secret was changed")
	got, _ := Decaps(dk, c)
	other := turned(c, 3, 1)
	gotOther, _ := Decaps(dk, other)
	wantOther := plainOther(dk, other)
	spoil(dk)
	spoil(c)
	spoil(other)
	sameBytes(t, got, wantK, "the opened secret, after what it is of was changed")
	sameBytes(t, gotOther, wantOther, "the other secret, after what it is of was changed")
	spoil(got)
	again, e := Decaps(wantDk, wantC)
	right(t, again, e, wantK, "Decaps, after all of that")
	k, c, e = Encaps(wantEk, mess("m", 32))
	spoil(c)
	right(t, k, e, wantK, "the secret, after the sealing was changed")
}

// P14.1, P14.4: one row may be handed in twice.
func TestOneRowTwice(t *testing.T) {
	both := mess("both", 32)
	ek, dk, e := Gen(both, both)
	wantEk, secret, _ := kpke.Gen(both)
	right(t, ek, e, wantEk, "Gen's public key")
	right(t, dk, e, join(secret, wantEk, h(wantEk), both), "Gen's private key")
	// The public key and the chance may lie in the private key.
	wantK, wantC := plainEncaps(t, wantEk, both)
	k, c, e := Encaps(dk[1152:2336], dk[2368:])
	right(t, k, e, wantK, "Encaps out of a private key")
	right(t, c, e, wantC, "Encaps out of a private key")
	got, e := Decaps(dk, dk[:1088])
	right(t, got, e, plainOther(dk, dk[:1088]), "Decaps of the key's own bytes")
	right(t, dk, e, join(secret, wantEk, h(wantEk), both), "the private key, after that")
}

// Ways: there is no room behind a part, and so nothing that is added to it is written over the next one.
func TestParts(t *testing.T) {
	dk := mess("parts", 2400)
	was := bytes.Clone(dk)
	key := partsOf(roomy(dk))
	for i, got := range [][]byte{key.secret, key.public, key.sum, key.seed} {
		from, to := []int{0, 1152, 2336, 2368}[i], []int{1152, 2336, 2368, 2400}[i]
		sameBytes(t, got, was[from:to], "part", i)
		if cap(got) != len(got) {
			t.Fatalf("part %d has room for %d bytes behind it", i, cap(got)-len(got))
		}
	}
	own := partsOf(dk)
	for _, p := range [][]byte{own.secret, own.public, own.sum, own.seed} {
		_ = append(p, 1, 2, 3)
	}
	sameBytes(t, dk, was, "the key, after bytes were added to its parts")
	ek, _ := keys(t, "parts")
	if k, _, _ := Encaps(ek, mess("m", 32)); cap(k) != len(k) {
		t.Fatalf("the secret has room for %d bytes behind it", cap(k)-len(k))
	}
}
