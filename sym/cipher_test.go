package sym

import (
	"bytes"
	"crypto/sha3"
	"slices"
	"strconv"
	"testing"

	"redan/aead"
	"redan/api"
)

// last is the number that no text is sealed with.
const last = ^uint64(0)

// mess are n bytes without order.
func mess(seed string, n int) []byte { return sha3.SumSHAKE256([]byte(seed), n) }

// turned is a row with one byte changed.
func turned(b []byte, at int, by byte) []byte {
	out := bytes.Clone(b)
	out[at] ^= by
	return out
}

// spoil changes all bytes that a row could reach, those behind its end too.
func spoil(b []byte) {
	b = b[:cap(b)]
	for i := range b {
		b[i] = ^b[i]
	}
}

// keys are bytes 0, bytes 255, and some without order.
func keys() [][]byte {
	return [][]byte{make([]byte, 32), bytes.Repeat([]byte{255}, 32), mess("key", 32), mess("another key", 32)}
}

// numbers are the first ones, those with one byte each, and those about where a byte more is needed, up to the last one that may be.
func numbers() []uint64 {
	out := []uint64{0, 1, 2}
	for i := range 8 {
		out = append(out, 1<<(8*i)-1, 0xa5<<(8*i))
	}
	return append(out, 0x0102030405060708, 1<<32, 1<<63, last-2, last-1)
}

// sizes are those of texts and data: none, those about a tag's size and a block's, and many.
func sizes() []int { return []int{0, 1, 15, 16, 17, 32, 63, 64, 65, 300} }

// plainNonce says the chapter's word: four bytes 0, and the number's eight, the lowest first.
func plainNonce(n uint64) []byte {
	out := make([]byte, 12)
	for i := range 8 {
		out[4+i] = byte(n % 256)
		n /= 256
	}
	return out
}

// plainSealed says P16.1's words, of a key of 32 bytes.
func plainSealed(t testing.TB, key []byte, n uint64, ad, text []byte) []byte {
	t.Helper()
	out, e := aead.Seal(key, plainNonce(n), ad, text)
	if e != api.OK {
		t.Fatalf("aead.Seal: error %d", int(e))
	}
	return out
}

// plainRekeyed says P16.1's words of Rekey.
func plainRekeyed(t testing.TB, key []byte) []byte {
	t.Helper()
	return plainSealed(t, key, last, nil, make([]byte, 32))[:32]
}

// call is sealing or opening.
type call func(c *Cipher, ad, b []byte) ([]byte, api.Errno)

// calls are both.
func calls() map[string]call {
	return map[string]call{
		"Seal": func(c *Cipher, ad, b []byte) ([]byte, api.Errno) { return c.Seal(ad, b) },
		"Open": func(c *Cipher, ad, b []byte) ([]byte, api.Errno) { return c.Open(ad, b) },
	}
}

// cipherIs fails unless a cipher has that key and that number.
func cipherIs(t testing.TB, c *Cipher, key []byte, n uint64, name string, of ...any) {
	t.Helper()
	if !bytes.Equal(c.Key, key) || c.N != n {
		t.Fatalf("%s %v: key %x, number %d, want %x, %d", name, of, c.Key, c.N, key, n)
	}
}

// answers fails unless a call answers those bytes, and no error.
func answers(t testing.TB, got []byte, e api.Errno, want []byte, name string, of ...any) {
	t.Helper()
	if e != api.OK || !bytes.Equal(got, want) {
		t.Fatalf("%s %v: %x, error %d, want %x", name, of, got, int(e), want)
	}
}

// refuses fails unless there is just that error, and nothing beside it.
func refuses(t testing.TB, got []byte, e, want api.Errno, name string, of ...any) {
	t.Helper()
	if e != want || len(got) != 0 {
		t.Fatalf("%s %v: %x, error %d, want nothing, error %d", name, of, got, int(e), int(want))
	}
}

// The chapter's example: Seal of a cipher without a key is the text.
func TestExample(t *testing.T) {
	var c Cipher
	got, e := c.Seal([]byte("beside"), []byte("text"))
	answers(t, got, e, []byte("text"), "Seal without a key")
}

// P16.1: without a key all is as it was handed in, whatever the number and what is beside; no number is used up.
func TestWithoutKey(t *testing.T) {
	for name, call := range calls() {
		for _, key := range [][]byte{nil, {}, make([]byte, 0, 32)} {
			for _, n := range []uint64{0, 1, last - 1, last} {
				for _, size := range sizes() {
					c := Cipher{Key: key, N: n}
					b := mess("text", size)
					got, e := call(&c, mess("ad", size/2), b)
					answers(t, got, e, mess("text", size), name, n, size)
					cipherIs(t, &c, nil, n, name, size)
				}
				c := Cipher{Key: key, N: n}
				got, e := call(&c, nil, nil)
				answers(t, got, e, nil, name, n)
			}
		}
	}
}

// P16.1: without a key what is answered is new memory all the same.
func TestWithoutKeyIsNew(t *testing.T) {
	for name, call := range calls() {
		room := mess("room", 100)
		b := room[:40]
		var c Cipher
		got, _ := call(&c, nil, b)
		spoil(got)
		if !bytes.Equal(room, mess("room", 100)) {
			t.Errorf("%s: the answer lies in what was handed in", name)
		}
		got, _ = call(&c, nil, b)
		spoil(b)
		if !bytes.Equal(got, mess("room", 100)[:40]) {
			t.Errorf("%s: what was handed in lies in the answer", name)
		}
	}
}

// P16.1: keys of other sizes are refused, ahead of all else that might be.
func TestKeysOfOtherSizes(t *testing.T) {
	for name, call := range calls() {
		for _, size := range []int{1, 12, 16, 31, 33, 48, 64, 1000} {
			for _, n := range []uint64{0, 5, last - 1, last} {
				for _, b := range [][]byte{nil, mess("b", 15), mess("b", 16), mess("b", 40)} {
					c := Cipher{Key: mess("key", size), N: n}
					got, e := call(&c, mess("ad", 3), b)
					refuses(t, got, e, api.ErrArg, name, size, n, len(b))
					cipherIs(t, &c, mess("key", size), n, name, len(b))
				}
			}
		}
	}
}

// P16.1: what is sealed is the AEAD's, with the number's nonce; it is opened with the same.
func TestSealAndOpen(t *testing.T) {
	for i, key := range keys() {
		for j, n := range numbers() {
			for k, size := range sizes() {
				ad := mess("ad", sizes()[(i+j+k)%len(sizes())])
				text := mess("text"+strconv.Itoa(i), size)
				sealer, opener := Cipher{key, n}, Cipher{key, n}
				sealed, e := sealer.Seal(ad, text)
				answers(t, sealed, e, plainSealed(t, key, n, ad, text), "Seal", i, n, size)
				cipherIs(t, &sealer, keys()[i], n+1, "Seal", n)
				got, e := opener.Open(ad, sealed)
				answers(t, got, e, text, "Open", i, n, size)
				cipherIs(t, &opener, keys()[i], n+1, "Open", n)
			}
		}
	}
}

// P16.1: nil and no bytes are one, beside and as the text.
func TestOfNothing(t *testing.T) {
	want := plainSealed(t, keys()[2], 7, nil, nil)
	for _, ad := range [][]byte{nil, {}} {
		for _, text := range [][]byte{nil, {}} {
			c := Cipher{keys()[2], 7}
			got, e := c.Seal(ad, text)
			answers(t, got, e, want, "Seal of nothing")
			c.N = 7
			got, e = c.Open(ad, want)
			answers(t, got, e, nil, "Open of nothing's")
		}
	}
}

// P16.1: the number 2^64 - 1 is refused, ahead of what the AEAD would say; 2^64 - 2 is the last one.
func TestLastNumber(t *testing.T) {
	key := keys()[2]
	for name, call := range calls() {
		for _, b := range [][]byte{nil, mess("b", 15), mess("b", 16), mess("b", 40), plainSealed(t, key, last, nil, []byte("text"))} {
			c := Cipher{key, last}
			got, e := call(&c, nil, b)
			refuses(t, got, e, api.ErrNonce, name, len(b))
			cipherIs(t, &c, keys()[2], last, name, len(b))
		}
		c := Cipher{key, last - 1}
		_, e := call(&c, nil, plainSealed(t, key, last-1, nil, []byte("text")))
		if e != api.OK {
			t.Errorf("%s with the last number: error %d", name, int(e))
		}
		cipherIs(t, &c, key, last, name)
		got, e := call(&c, nil, plainSealed(t, key, last, nil, []byte("text")))
		refuses(t, got, e, api.ErrNonce, name, "once more")
	}
}

// P16.1: the number grows by one for each that is sealed or opened, and by none for what is refused.
func TestNumbersGrow(t *testing.T) {
	key := keys()[2]
	sealer, opener := Cipher{Key: key}, Cipher{Key: key}
	for n := range uint64(300) {
		text := mess("text", int(n))
		sealed, e := sealer.Seal(nil, text)
		answers(t, sealed, e, plainSealed(t, key, n, nil, text), "Seal", n)
		if n%3 == 0 {
			got, e := opener.Open(nil, turned(sealed, int(n), 4))
			refuses(t, got, e, api.ErrAuth, "Open", n)
		}
		got, e := opener.Open(nil, sealed)
		answers(t, got, e, text, "Open", n)
		cipherIs(t, &sealer, key, n+1, "Seal", n)
		cipherIs(t, &opener, key, n+1, "Open", n)
	}
	// One cipher may do both: they count together.
	sealed, _ := sealer.Seal(nil, nil)
	got, e := sealer.Open(nil, sealed)
	refuses(t, got, e, api.ErrAuth, "Open with the number behind")
	cipherIs(t, &sealer, key, 301, "both")
	sealer.N = 300
	if _, e = sealer.Open(nil, sealed); e != api.OK {
		t.Errorf("Open with the number set back: error %d", int(e))
	}
	cipherIs(t, &sealer, key, 301, "both")
}

// P16.1: what was changed, or belongs to another key, number or row beside, is refused, and nothing changes.
func TestOpenRefuses(t *testing.T) {
	key, ad, n := keys()[2], mess("ad", 20), uint64(77)
	for _, size := range []int{0, 1, 16, 40} {
		sealed := plainSealed(t, key, n, ad, mess("text", size))
		check := func(key []byte, n uint64, ad, sealed []byte, want api.Errno, of ...any) {
			t.Helper()
			c := Cipher{key, n}
			before := bytes.Clone(key)
			got, e := c.Open(ad, sealed)
			refuses(t, got, e, want, "Open", of...)
			cipherIs(t, &c, before, n, "Open", of...)
		}
		for i := range sealed {
			check(key, n, ad, turned(sealed, i, 1), api.ErrAuth, "turned", i)
			check(key, n, ad, turned(sealed, i, 128), api.ErrAuth, "turned", i)
		}
		for i := range len(sealed) {
			want := api.ErrAuth
			if i < 16 {
				want = api.ErrShort
			}
			check(key, n, ad, sealed[:i], want, "too few", i)
			check(key, n, ad, sealed[len(sealed)-i:], want, "too few ahead", i)
		}
		check(key, n, ad, nil, api.ErrShort, "nothing")
		check(key, n, ad, append(bytes.Clone(sealed), 0), api.ErrAuth, "one more")
		check(key, n, nil, sealed, api.ErrAuth, "nothing beside")
		check(key, n, turned(ad, 19, 1), sealed, api.ErrAuth, "another row beside")
		check(key, n-1, ad, sealed, api.ErrAuth, "the number ahead")
		check(key, n+1, ad, sealed, api.ErrAuth, "the number behind")
		check(turned(key, 31, 1), n, ad, sealed, api.ErrAuth, "another key")
	}
}

// P16.1: each byte of the number counts, the highest too.
func TestNumbersAreToldApart(t *testing.T) {
	seen := map[string]uint64{}
	for i := range 64 {
		c := Cipher{keys()[2], 1 << i}
		sealed, e := c.Seal(nil, []byte("text"))
		if other, there := seen[string(sealed)]; there || e != api.OK {
			t.Errorf("numbers %d and %d: the same, error %d", other, uint64(1)<<i, int(e))
		}
		seen[string(sealed)] = 1 << i
	}
}

// P16.1: Rekey makes the key of the AEAD's words, at any number, which stays.
func TestRekey(t *testing.T) {
	for i, key := range keys() {
		for _, n := range append(numbers(), last) {
			c := Cipher{bytes.Clone(key), n}
			c.Rekey()
			once := plainRekeyed(t, keys()[i])
			cipherIs(t, &c, once, n, "Rekey", i, n)
			c.Rekey()
			cipherIs(t, &c, plainRekeyed(t, once), n, "Rekey twice", i, n)
			if bytes.Equal(c.Key, once) || bytes.Equal(once, key) {
				t.Errorf("Rekey of key %d: the same key", i)
			}
		}
	}
}

// P16.1: ciphers rekeyed at one time open what the other one seals; one that isn't rekeyed doesn't.
func TestRekeyedCiphers(t *testing.T) {
	sealer, opener, late := Cipher{keys()[2], 3}, Cipher{keys()[2], 3}, Cipher{keys()[2], 3}
	for range 5 {
		sealer.Rekey()
		opener.Rekey()
		sealed, e := sealer.Seal(nil, []byte("text"))
		if e != api.OK {
			t.Fatalf("Seal: error %d", int(e))
		}
		got, e := late.Open(nil, sealed)
		refuses(t, got, e, api.ErrAuth, "Open of one that isn't rekeyed")
		got, e = opener.Open(nil, sealed)
		answers(t, got, e, []byte("text"), "Open")
		late.N++
	}
}

// P16.1: Rekey does nothing without a key, nor of one of another size.
func TestRekeyOfOtherSizes(t *testing.T) {
	for _, n := range []uint64{0, 9, last} {
		for _, size := range []int{0, 1, 16, 31, 33, 48, 64} {
			c := Cipher{mess("key", size), n}
			c.Rekey()
			cipherIs(t, &c, mess("key", size), n, "Rekey", size)
		}
		c := Cipher{nil, n}
		c.Rekey()
		cipherIs(t, &c, nil, n, "Rekey of nil")
	}
}

// P16.4: the old key's memory is left as it is; the new one shares none with it.
func TestRekeyIsNew(t *testing.T) {
	room := mess("room", 80)
	c := Cipher{Key: room[:32]}
	other := c
	c.Rekey()
	want := plainRekeyed(t, mess("room", 80)[:32])
	if !bytes.Equal(room, mess("room", 80)) {
		t.Error("Rekey changed the old key's memory")
	}
	cipherIs(t, &other, room[:32], 0, "a cipher that was copied")
	spoil(room)
	cipherIs(t, &c, want, 0, "Rekey, the old key changed")
	spoil(c.Key)
	again := Cipher{Key: mess("room", 80)[:32]}
	again.Rekey()
	cipherIs(t, &again, want, 0, "Rekey once more")
}

// P16.4: of nil ErrArg and nothing; Rekey does nothing.
func TestNilCipher(t *testing.T) {
	var c *Cipher
	for name, call := range calls() {
		for _, b := range [][]byte{nil, mess("b", 15), mess("b", 40)} {
			got, e := call(c, mess("ad", 4), b)
			refuses(t, got, e, api.ErrArg, name, len(b))
			got, e = call(c, nil, b)
			refuses(t, got, e, api.ErrArg, name, len(b))
		}
	}
	c.Rekey()
}

// P16.4: what is handed in is neither changed nor kept, nor does what lies behind it count; what is answered is new.
func TestCipherMemory(t *testing.T) {
	key := keys()[2]
	for name, call := range calls() {
		for _, size := range []int{0, 1, 16, 50, 200} {
			text := mess("text", size)
			if name == "Open" {
				text = plainSealed(t, key, 4, mess("ad", 30), text)
			}
			rooms := [][]byte{append(bytes.Clone(key), mess("behind", 40)...), append(mess("ad", 30), mess("behind", 40)...), append(bytes.Clone(text), mess("behind", 40)...)}
			before := make([][]byte, len(rooms))
			for i := range rooms {
				before[i] = bytes.Clone(rooms[i])
			}
			c := Cipher{rooms[0][:32], 4}
			got, e := call(&c, rooms[1][:30], rooms[2][:len(text)])
			if e != api.OK {
				t.Fatalf("%s of %d bytes: error %d", name, size, int(e))
			}
			want := bytes.Clone(got)
			for i := range rooms {
				if !bytes.Equal(rooms[i], before[i]) {
					t.Errorf("%s changed row %d that it was handed, %d bytes", name, i, size)
				}
				spoil(rooms[i])
			}
			if !bytes.Equal(got, want) {
				t.Errorf("%s: the answer lies in what was handed in, %d bytes", name, size)
			}
			for i := range rooms {
				copy(rooms[i], before[i])
			}
			spoil(got)
			cipherIs(t, &c, key, 5, name, "its answer changed")
			c.N = 4
			again, e := call(&c, rooms[1][:30], rooms[2][:len(text)])
			answers(t, again, e, want, name, "once more", size)
		}
	}
}

// P16.4: one row may be key, text and what is beside at once.
func TestOneRowForAll(t *testing.T) {
	key := mess("row", 32)
	c := Cipher{key, 1}
	sealed, e := c.Seal(key, key)
	answers(t, sealed, e, plainSealed(t, mess("row", 32), 1, mess("row", 32), mess("row", 32)), "Seal")
	cipherIs(t, &c, mess("row", 32), 2, "Seal")
	c = Cipher{key, 1}
	got, e := c.Open(slices.Clone(key), sealed)
	answers(t, got, e, key, "Open")
}
