package hkdf

import (
	"bytes"
	"crypto/hmac"
	"crypto/sha3"
	"encoding/hex"
	"hash"
	"testing"
)

// row is a row of n bytes, another one for each seed.
func row(n, seed int) []byte {
	out := make([]byte, n)
	x := uint32(seed)*2654435761 + 12345
	for i := range n {
		x = x*1664525 + 1013904223
		out[i] = byte(x >> 24)
	}
	return out
}

// spoil changes all bytes that a row could reach, those behind its end too.
func spoil(b []byte) {
	b = b[:cap(b)]
	for i := range b {
		b[i] = ^b[i]
	}
}

// sum is the library's SHA3-256.
func sum(b []byte) []byte {
	out := sha3.Sum256(b)
	return out[:]
}

// plainMac says the words of P4.1, over the library's sum.
func plainMac(key, b []byte) []byte {
	k := bytes.Clone(key)
	if len(k) > 136 {
		k = sum(k)
	}
	for len(k) < 136 {
		k = append(k, 0)
	}
	var inner, outer []byte
	for _, x := range k {
		inner = append(inner, x^54)
		outer = append(outer, x^92)
	}
	return sum(append(outer, sum(append(inner, b...))...))
}

// libraryMac is the library's HMAC.
func libraryMac(key, b []byte) []byte {
	h := hmac.New(func() hash.Hash { return sha3.New256() }, key)
	h.Write(b)
	return h.Sum(nil)
}

// plainKeys say the words of P4.2, over the library's HMAC.
func plainKeys(ck, in []byte) [3][]byte {
	t := libraryMac(ck, in)
	first := libraryMac(t, []byte{1})
	second := libraryMac(t, append(bytes.Clone(first), 2))
	third := libraryMac(t, append(bytes.Clone(second), 3))
	return [3][]byte{first, second, third}
}

// keySizes are sizes of keys: none, those of sums and of other keys, and those about a block and two.
func keySizes() []int {
	return []int{0, 1, 2, 31, 32, 33, 64, 100, 134, 135, 136, 137, 138, 168, 271, 272, 273, 1000}
}

// byteSizes are how many bytes are summed: with a block ahead of them, those that end about a block's end among them.
func byteSizes() []int {
	return []int{0, 1, 2, 31, 32, 33, 134, 135, 136, 137, 271, 272, 273, 2000}
}

// is fails unless bytes are those of a text, which is hexadecimal.
func is(t *testing.T, name string, got []byte, want string) {
	t.Helper()
	if hex.EncodeToString(got) != want {
		t.Errorf("%s: %x, want %s", name, got, want)
	}
}

// P4.1: the chapter's example, whole.
func TestMacOfNothing(t *testing.T) {
	got := Mac(nil, nil)
	is(t, "Mac of no key and nothing", got, "e841c164e5b4f10c9f3985587962af72fd607a951196fc92fb3a5251941784ea")
	for _, other := range [][]byte{Mac([]byte{}, nil), Mac(nil, []byte{}), Mac([]byte{}, []byte{})} {
		if !bytes.Equal(other, got) {
			t.Errorf("nil and no bytes are not one: %x, %x", other, got)
		}
	}
}

// P4.1: the standard's examples of HMAC over SHA3-256 (NIST), with keys shorter than a block, of a block, and longer.
func TestMacOfTheStandard(t *testing.T) {
	key := make([]byte, 168)
	for i := range key {
		key[i] = byte(i)
	}
	is(t, "a short key", Mac(key[:32], []byte("Sample message for keylen<blocklen")),
		"4fe8e202c4f058e8dddc23d8c34e467343e23555e24fc2f025d598f558f67205")
	is(t, "a key of a block", Mac(key[:136], []byte("Sample message for keylen=blocklen")),
		"68b94e2e538a9be4103bebb5aa016d47961d4d1aa906061313b557f8af2c3faa")
	is(t, "a long key", Mac(key, []byte("Sample message for keylen>blocklen")),
		"9bcf2c238e235c3ce88404e813bd2f3a97185ac6f238c63d6229a00b07974258")
}

// P4.1: keys and bytes of many sizes, by the promise's words and by the library.
func TestMac(t *testing.T) {
	for _, n := range keySizes() {
		for _, m := range byteSizes() {
			key, b := row(n, n+1), row(m, m+7)
			got := Mac(key, b)
			if want := plainMac(key, b); !bytes.Equal(got, want) || !bytes.Equal(got, libraryMac(key, b)) {
				t.Fatalf("Mac of a key of %d bytes and %d bytes: %x, want %x", n, m, got, want)
			}
		}
	}
}

// P4.1: each size of a key up to more than two blocks, with bytes of all values.
func TestMacEachKeySize(t *testing.T) {
	for n := range 300 {
		for _, key := range [][]byte{row(n, n), make([]byte, n), bytes.Repeat([]byte{54}, n), bytes.Repeat([]byte{92}, n), bytes.Repeat([]byte{255}, n)} {
			b := row(n, 3)
			if got, want := Mac(key, b), plainMac(key, b); !bytes.Equal(got, want) {
				t.Fatalf("Mac of the key %x: %x, want %x", key, got, want)
			}
		}
	}
}

// P4.1: a key of 137 bytes is its sum; those of 135 and 136 are not.
func TestMacOfLongKeys(t *testing.T) {
	b := []byte("some bytes")
	for _, n := range []int{135, 136, 137, 138, 500} {
		key := row(n, n)
		if same := bytes.Equal(Mac(key, b), Mac(sum(key), b)); same != (n > 136) {
			t.Errorf("a key of %d bytes counts as its sum: %t", n, same)
		}
	}
}

// P4.1: each byte of the key counts, the last one of a block and of a long key too, and each byte of b.
func TestMacEachByteCounts(t *testing.T) {
	for _, n := range []int{1, 32, 135, 136, 137, 200} {
		key, b := row(n, n), row(n, n+1)
		want := Mac(key, b)
		for i := range n {
			key[i] ^= 128
			if bytes.Equal(Mac(key, b), want) {
				t.Errorf("byte %d of a key of %d doesn't count", i, n)
			}
			key[i] ^= 128
			b[i] ^= 1
			if bytes.Equal(Mac(key, b), want) {
				t.Errorf("byte %d of %d doesn't count", i, n)
			}
			b[i] ^= 1
		}
	}
}

// P4.1: key and bytes are not one row: where the one ends counts.
func TestMacKeepsApart(t *testing.T) {
	all := row(40, 2)
	seen := map[string]int{}
	for cut := range len(all) + 1 {
		got := string(Mac(all[:cut], all[cut:]))
		if other, ok := seen[got]; ok {
			t.Errorf("parted at %d and at %d: the same Mac", other, cut)
		}
		seen[got] = cut
	}
	if bytes.Equal(Mac(all, nil), Mac(nil, all)) {
		t.Error("key and bytes may be changed for each other")
	}
}

// P4.1: many bytes.
func TestMacOfMany(t *testing.T) {
	b := bytes.Repeat([]byte("redan"), 20000)
	for _, n := range []int{0, 32, 136, 137, len(b)} {
		if got, want := Mac(b[:n], b), libraryMac(b[:n], b); !bytes.Equal(got, want) {
			t.Errorf("Mac of a key of %d bytes and many: %x, want %x", n, got, want)
		}
	}
}

// P4.2: two and three keys, by the promise's words.
func TestKeys(t *testing.T) {
	for _, n := range keySizes() {
		for _, m := range byteSizes() {
			ck, in := row(n, n+5), row(m, m+9)
			want := plainKeys(ck, in)
			first, second := Two(ck, in)
			if !bytes.Equal(first, want[0]) || !bytes.Equal(second, want[1]) {
				t.Fatalf("Two of %d and %d bytes: %x, %x, want %x", n, m, first, second, want[:2])
			}
			a, b, c := Three(ck, in)
			if !bytes.Equal(a, want[0]) || !bytes.Equal(b, want[1]) || !bytes.Equal(c, want[2]) {
				t.Fatalf("Three of %d and %d bytes: %x, %x, %x, want %x", n, m, a, b, c, want)
			}
		}
	}
}

// P4.2: nil and no bytes are one for both.
func TestKeysOfNothing(t *testing.T) {
	want := plainKeys(nil, nil)
	for _, none := range [][]byte{nil, {}} {
		a, b, c := Three(none, none)
		if !bytes.Equal(a, want[0]) || !bytes.Equal(b, want[1]) || !bytes.Equal(c, want[2]) {
			t.Errorf("Three of nothing: %x, %x, %x, want %x", a, b, c, want)
		}
		a, b = Two(none, none)
		if !bytes.Equal(a, want[0]) || !bytes.Equal(b, want[1]) {
			t.Errorf("Two of nothing: %x, %x, want %x", a, b, want[:2])
		}
	}
}

// P4.2: the keys are 32 bytes each, and differ.
func TestKeysDiffer(t *testing.T) {
	a, b, c := Three([]byte("ck"), []byte("in"))
	for _, key := range [][]byte{a, b, c} {
		if len(key) != 32 {
			t.Errorf("a key of %d bytes", len(key))
		}
	}
	if bytes.Equal(a, b) || bytes.Equal(b, c) || bytes.Equal(a, c) {
		t.Errorf("keys are the same: %x, %x, %x", a, b, c)
	}
}

// P4.3: noughts behind a key, up to 136 bytes in all, don't count; beyond them they do.
func TestNoughtsBehindKey(t *testing.T) {
	b := row(50, 1)
	for _, n := range []int{0, 1, 31, 32, 100, 134, 135, 136} {
		key := row(n, n+2)
		want := Mac(key, b)
		longer := bytes.Clone(key)
		for len(longer) < 136 {
			longer = append(longer, 0)
			if !bytes.Equal(Mac(longer, b), want) {
				t.Errorf("a key of %d bytes has another Mac with noughts up to %d", n, len(longer))
			}
		}
		if bytes.Equal(Mac(append(longer, 0), b), want) {
			t.Errorf("a key of %d bytes has the same Mac with noughts up to 137", n)
		}
	}
}

// P4.3: noughts ahead of a key count, and so do those behind the bytes.
func TestOtherNoughtsCount(t *testing.T) {
	key, b := row(20, 1), row(20, 2)
	want := Mac(key, b)
	if bytes.Equal(Mac(append([]byte{0}, key...), b), want) {
		t.Error("a nought ahead of the key doesn't count")
	}
	if bytes.Equal(Mac(key, append(bytes.Clone(b), 0)), want) {
		t.Error("a nought behind the bytes doesn't count")
	}
}

// P4.3: Two are the first two of Three, also of a chaining key with noughts behind it.
func TestTwoOfThree(t *testing.T) {
	for _, n := range keySizes() {
		ck, in := row(n, n), row(n, n+1)
		a, b := Two(ck, in)
		for len(ck) < 136 {
			ck = append(ck, 0)
		}
		if c, d, _ := Three(ck, in); !bytes.Equal(a, c) || !bytes.Equal(b, d) {
			t.Errorf("Two of %d bytes: %x, %x, Three: %x, %x", n, a, b, c, d)
		}
	}
}

// calls are the three functions, each with its answers as a list.
func calls() map[string]func(key, b []byte) [][]byte {
	return map[string]func(key, b []byte) [][]byte{
		"Mac": func(key, b []byte) [][]byte { return [][]byte{Mac(key, b)} },
		"Two": func(key, b []byte) [][]byte {
			first, second := Two(key, b)
			return [][]byte{first, second}
		},
		"Three": func(key, b []byte) [][]byte {
			first, second, third := Three(key, b)
			return [][]byte{first, second, third}
		},
	}
}

// clones are lists with the same bytes in new memory.
func clones(l [][]byte) [][]byte {
	var out [][]byte
	for _, b := range l {
		out = append(out, bytes.Clone(b))
	}
	return out
}

// same tells whether two lists have the same rows.
func same(a, b [][]byte) bool {
	if len(a) != len(b) {
		return false
	}
	for i := range a {
		if !bytes.Equal(a[i], b[i]) {
			return false
		}
	}
	return true
}

// Rule 3: neither key nor bytes are changed, nor what lies behind them in memory, nor does that count.
func TestArgumentsAreLeft(t *testing.T) {
	for name, call := range calls() {
		for _, n := range []int{0, 1, 32, 135, 136, 137, 300} {
			keyRoom, byteRoom := row(n+400, n), row(n+400, n+1)
			keyBefore, byteBefore := bytes.Clone(keyRoom), bytes.Clone(byteRoom)
			got := call(keyRoom[:n], byteRoom[:n])
			if !bytes.Equal(keyRoom, keyBefore) || !bytes.Equal(byteRoom, byteBefore) {
				t.Errorf("%s changed what it was handed, %d bytes", name, n)
			}
			if want := call(bytes.Clone(keyRoom[:n]), bytes.Clone(byteRoom[:n])); !same(got, want) {
				t.Errorf("%s of %d bytes hangs on what lies behind them", name, n)
			}
		}
	}
}

// Rule 3: neither key nor bytes are kept: answers stay when they change, and later calls take them as they are then.
func TestArgumentsAreNotKept(t *testing.T) {
	for name, call := range calls() {
		for _, n := range []int{1, 32, 135, 136, 137, 300} {
			key, b := row(n, n), row(n, n+1)
			got := call(key, b)
			kept := clones(got)
			spoil(key)
			spoil(b)
			if !same(got, kept) {
				t.Errorf("%s: answers lie in what was handed in, %d bytes", name, n)
			}
			if got, want := call(key, b), call(bytes.Clone(key), bytes.Clone(b)); !same(got, want) || same(got, kept) {
				t.Errorf("%s of %d bytes hangs on an earlier call", name, n)
			}
		}
	}
}

// Rule 3: one row may be key and bytes at once, and so may an earlier answer.
func TestOneRowForBoth(t *testing.T) {
	for _, n := range []int{0, 32, 136, 137} {
		all := row(n, n)
		if got, want := Mac(all, all), libraryMac(all, all); !bytes.Equal(got, want) {
			t.Errorf("Mac of one row of %d bytes: %x, want %x", n, got, want)
		}
		first, second := Two(all, all)
		a, b := Two(first, second)
		if want := plainKeys(bytes.Clone(first), bytes.Clone(second)); !bytes.Equal(a, want[0]) || !bytes.Equal(b, want[1]) {
			t.Errorf("Two of an earlier answer: %x, %x, want %x", a, b, want[:2])
		}
	}
}

// P4.2: each answer is new memory of its own: who changes one changes no other, no argument, and no later answer.
func TestAnswersAreNew(t *testing.T) {
	for name, call := range calls() {
		for _, n := range []int{0, 32, 136, 137} {
			key, b := row(n, n), row(n, n+1)
			want := clones(call(key, b))
			for i := range want {
				got := call(key, b)
				spoil(got[i])
				for j := range got {
					if j != i && !bytes.Equal(got[j], want[j]) {
						t.Errorf("%s: answers %d and %d share memory", name, i, j)
					}
				}
				if !bytes.Equal(key, row(n, n)) || !bytes.Equal(b, row(n, n+1)) {
					t.Errorf("%s: answer %d lies in what was handed in", name, i)
				}
				if !same(call(key, b), want) {
					t.Errorf("%s: what is answered hangs on an earlier answer", name)
				}
			}
		}
	}
}
