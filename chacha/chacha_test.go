package chacha

import (
	"bytes"
	"crypto/sha3"
	"encoding/hex"
	"fmt"
	"math"
	"testing"
)

// row is a row of n bytes, another one for each seed.
func row(n, seed int) []byte {
	out := make([]byte, n)
	x := uint32(seed)*2654435761 + 12345
	for i := range n {
		x = x*1664525 + 1013904223
		out[i] = byte(x >> 24)
	}
	return out
}

// spoil changes all bytes that a row could reach, those behind its end too.
func spoil(b []byte) {
	b = b[:cap(b)]
	for i := range b {
		b[i] = ^b[i]
	}
}

// fromHex are the bytes of a text.
func fromHex(t testing.TB, text string) []byte {
	t.Helper()
	out, err := hex.DecodeString(text)
	if err != nil {
		t.Fatal(err)
	}
	return out
}

// same fails unless two rows are the same.
func same(t *testing.T, name string, got, want []byte) {
	t.Helper()
	if !bytes.Equal(got, want) {
		t.Fatalf("%s: %x, want %x", name, got, want)
	}
}

// isQuarter fails unless Quarter of four words are four others.
func isQuarter(t *testing.T, in, want [4]uint32) {
	t.Helper()
	a, b, c, d := Quarter(in[0], in[1], in[2], in[3])
	if got := [4]uint32{a, b, c, d}; got != want {
		t.Fatalf("Quarter of %x: %x, want %x", in, got, want)
	}
}

// plainSum and plainTurn say the words' arithmetic over numbers that are wide enough for all of it.
func plainSum(a, b uint64) uint64 { return (a + b) % (1 << 32) }

func plainTurn(x uint64, n int) uint64 {
	for range n {
		x *= 2
		x = x%(1<<32) + x/(1<<32)
	}
	return x
}

// plainQuarter says the words of P7.1.
func plainQuarter(w [4]uint64) [4]uint64 {
	for _, step := range [][4]int{{0, 1, 3, 16}, {2, 3, 1, 12}, {0, 1, 3, 8}, {2, 3, 1, 7}} {
		to, add, other, n := step[0], step[1], step[2], step[3]
		w[to] = plainSum(w[to], w[add])
		w[other] = plainTurn(w[other]^w[to], n)
	}
	return w
}

// plainBlock says the words of P7.2.
func plainBlock(key []byte, counter uint32, nonce []byte) []byte {
	all := append([]byte("expand 32-byte k"), key...)
	for i := range 4 {
		all = append(all, byte(counter>>(8*i)))
	}
	all = append(all, nonce...)
	var at [16]uint64
	for i, x := range all {
		at[i/4] += uint64(x) << (8 * (i % 4))
	}
	s := at
	for range 10 {
		// Columns straight down, and then each row a place further to the right.
		for _, aside := range []int{0, 1} {
			for i := range 4 {
				var p [4]int
				for y := range 4 {
					p[y] = 4*y + (i+y*aside)%4
				}
				q := plainQuarter([4]uint64{s[p[0]], s[p[1]], s[p[2]], s[p[3]]})
				s[p[0]], s[p[1]], s[p[2]], s[p[3]] = q[0], q[1], q[2], q[3]
			}
		}
	}
	var out []byte
	for i := range s {
		x := plainSum(s[i], at[i])
		out = append(out, byte(x%256), byte(x/256%256), byte(x/65536%256), byte(x/16777216))
	}
	return out
}

// plainStream says the words of P7.3.
func plainStream(key []byte, counter uint32, nonce, b []byte) []byte {
	var out, block []byte
	for i, x := range b {
		if i%64 == 0 {
			block = plainBlock(key, uint32((uint64(counter)+uint64(i/64))%(1<<32)), nonce)
		}
		out = append(out, x^block[i%64])
	}
	return out
}

// counters are the edges of a word, and others.
func counters() []uint32 {
	return []uint32{0, 1, 2, 42, 255, 256, 65535, 65536, 1<<31 - 1, 1 << 31, math.MaxUint32 - 2, math.MaxUint32 - 1, math.MaxUint32}
}

// keys and nonces are bytes 0, bytes 255, counted ones, and ones without order.
func keys() [][]byte   { return rows(32) }
func nonces() [][]byte { return rows(12) }

func rows(n int) [][]byte {
	counted := make([]byte, n)
	for i := range counted {
		counted[i] = byte(i)
	}
	out := [][]byte{make([]byte, n), bytes.Repeat([]byte{255}, n), counted, append(make([]byte, n-1), 128)}
	for seed := range 6 {
		out = append(out, row(n, 100*n+seed))
	}
	return out
}

// sizes are those about whole blocks, and others.
func sizes() []int {
	return []int{0, 1, 2, 3, 31, 32, 33, 62, 63, 64, 65, 66, 127, 128, 129, 191, 192, 193, 255, 256, 257, 1000, 1023, 1024, 1025}
}

// P7.1: the chapter's example.
func TestExample(t *testing.T) {
	isQuarter(t, [4]uint32{0x11111111, 0x01020304, 0x9b8d6f43, 0x01234567}, [4]uint32{0xea2a92f4, 0xcb1cf8ce, 0x4581472e, 0x5881c4bb})
}

// P7.1: RFC 8439, 2.2.1: a quarter round of words of a state.
func TestQuarterOfTheStandard(t *testing.T) {
	isQuarter(t, [4]uint32{0x516461b1, 0x2a5f714c, 0x53372767, 0x3d631689}, [4]uint32{0xbdb886dc, 0xcfacafd2, 0xe46bea80, 0xccc07c79})
}

// P7.1: words of all kinds, by the promise's words.
func TestQuarterByItsWords(t *testing.T) {
	edges := []uint32{0, 1, 2, 0x7fff, 0x8000, 0xffff, 0x10000, 0x7fffffff, 0x80000000, 0xfffffffe, 0xffffffff, 0xaaaaaaaa, 0x55555555}
	for _, a := range edges {
		for _, b := range edges {
			for _, c := range edges {
				for _, d := range edges {
					quarterByItsWords(t, [4]uint32{a, b, c, d})
				}
			}
		}
	}
	x := uint32(1)
	for range 5000 {
		var in [4]uint32
		for i := range in {
			x = x*1664525 + 1013904223
			in[i] = x ^ x>>15
		}
		quarterByItsWords(t, in)
	}
}

// P7.1: each single bit of each word, and each one missing.
func TestQuarterOfSingleBits(t *testing.T) {
	for word := range 4 {
		for place := range 32 {
			var in [4]uint32
			in[word] = 1 << place
			quarterByItsWords(t, in)
			for i := range in {
				in[i] = ^in[i]
			}
			quarterByItsWords(t, in)
		}
	}
}

func quarterByItsWords(t *testing.T, in [4]uint32) {
	t.Helper()
	var wide [4]uint64
	for i, x := range in {
		wide[i] = uint64(x)
	}
	wide = plainQuarter(wide)
	isQuarter(t, in, [4]uint32{uint32(wide[0]), uint32(wide[1]), uint32(wide[2]), uint32(wide[3])})
}

// P7.1: of words 0 alone nothing comes but words 0.
func TestQuarterOfNoughts(t *testing.T) {
	isQuarter(t, [4]uint32{}, [4]uint32{})
}

// P7.2: the blocks of RFC 8439, 2.3.2 and A.1.
func TestBlockOfTheStandard(t *testing.T) {
	none := make([]byte, 32)
	counted := keys()[2]
	for _, c := range []struct {
		name    string
		key     []byte
		counter uint32
		nonce   string
		want    string
	}{
		{"2.3.2", counted, 1, "000000090000004a00000000", "10f1e7e4d13b5915500fdd1fa32071c4c7d1f4c733c068030422aa9ac3d46c4ed2826446079faa0914c2d705d98b02a2b5129cd1de164eb9cbd083e8a2503c4e"},
		{"A.1 #1", none, 0, "000000000000000000000000", "76b8e0ada0f13d90405d6ae55386bd28bdd219b8a08ded1aa836efcc8b770dc7da41597c5157488d7724e03fb8d84a376a43b8f41518a11cc387b669b2ee6586"},
		{"A.1 #2", none, 1, "000000000000000000000000", "9f07e7be5551387a98ba977c732d080dcb0f29a048e3656912c6533e32ee7aed29b721769ce64e43d57133b074d839d531ed1f28510afb45ace10a1f4b794d6f"},
		{"A.1 #3", append(make([]byte, 31), 1), 1, "000000000000000000000000", "3aeb5224ecf849929b9d828db1ced4dd832025e8018b8160b82284f3c949aa5a8eca00bbb4a73bdad192b5c42f73f2fd4e273644c8b36125a64addeb006c13a0"},
		{"A.1 #4", append([]byte{0, 255}, make([]byte, 30)...), 2, "000000000000000000000000", "72d54dfbf12ec44b362692df94137f328fea8da73990265ec1bbbea1ae9af0ca13b25aa26cb4a648cb9b9d1be65b2c0924a66c54d545ec1b7374f4872e99f096"},
		{"A.1 #5", none, 0, "000000000000000000000002", "c2c64d378cd536374ae204b9ef933fcd1a8b2288b3dfa49672ab765b54ee27c78a970e0e955c14f3a88e741b97c286f75f8fc299e8148362fa198a39531bed6d"},
	} {
		same(t, c.name, Block(c.key, c.counter, fromHex(t, c.nonce)), fromHex(t, c.want))
	}
}

// P7.2: keys, counters and nonces of all kinds, by the promise's words.
func TestBlockByItsWords(t *testing.T) {
	for _, key := range keys() {
		for _, nonce := range nonces() {
			for _, counter := range counters() {
				name := fmt.Sprintf("Block of %x, %d, %x", key, counter, nonce)
				same(t, name, Block(key, counter, nonce), plainBlock(key, counter, nonce))
			}
		}
	}
}

// P7.2: each bit of a key, of a counter and of a nonce counts, each for itself.
func TestEachBitCounts(t *testing.T) {
	seen := map[string]string{}
	note := func(name string, key []byte, counter uint32, nonce []byte) {
		t.Helper()
		block := Block(key, counter, nonce)
		same(t, name, block, plainBlock(key, counter, nonce))
		if other, ok := seen[string(block)]; ok {
			t.Errorf("the block of %s is that of %s", name, other)
		}
		seen[string(block)] = name
	}
	key, nonce := row(32, 1), row(12, 2)
	note("none turned", key, 3, nonce)
	for place := range 256 {
		other := bytes.Clone(key)
		other[place/8] ^= 1 << (place % 8)
		note(fmt.Sprint("the key's bit ", place), other, 3, nonce)
	}
	for place := range 32 {
		note(fmt.Sprint("the counter's bit ", place), key, 3^1<<place, nonce)
	}
	for place := range 96 {
		other := bytes.Clone(nonce)
		other[place/8] ^= 1 << (place % 8)
		note(fmt.Sprint("the nonce's bit ", place), key, 3, other)
	}
}

// wrongSizes are keys and nonces of which at least one hasn't so many bytes as it must.
func wrongSizes() [][2][]byte {
	key, nonce := row(32, 1), row(12, 2)
	out := [][2][]byte{{nil, nil}, {nil, nonce}, {key, nil}, {nonce, key}, {key, key}, {nonce, nonce}}
	few := []int{8, 11, 13, 16, 24, 31, 33, 64, 255, 1 << 10, 1 << 16}
	for n := range 70 {
		few = append(few, n)
	}
	for _, n := range few {
		if n != 32 {
			out = append(out, [2][]byte{row(n, n), nonce}, [2][]byte{make([]byte, n), make([]byte, 12)})
		}
		if n != 12 {
			out = append(out, [2][]byte{key, row(n, n)}, [2][]byte{make([]byte, 32), make([]byte, n)})
		}
		if n != 32 && n != 12 {
			out = append(out, [2][]byte{row(n, n), row(n, n+1)}, [2][]byte{row(n, n), nil}, [2][]byte{nil, row(n, n)})
		}
	}
	// As many bytes as both need, but parted elsewhere.
	all := row(44, 3)
	for cut := range 45 {
		if cut != 32 {
			out = append(out, [2][]byte{all[:cut:cut], all[cut:]})
		}
	}
	return out
}

// P7.2, P7.3: nothing for keys and nonces that haven't 32 and 12 bytes, whatever the rest is.
func TestWrongSizes(t *testing.T) {
	for _, c := range wrongSizes() {
		name := fmt.Sprintf("a key of %d bytes and a nonce of %d", len(c[0]), len(c[1]))
		for _, counter := range []uint32{0, 1, math.MaxUint32} {
			if got := Block(c[0], counter, c[1]); len(got) != 0 {
				t.Errorf("Block of %s: %x, want nothing", name, got)
			}
			for _, b := range [][]byte{nil, {}, {1}, row(64, 1), row(200, 1), row(32, 4), row(12, 4)} {
				if got := Stream(c[0], counter, c[1], b); len(got) != 0 {
					t.Errorf("Stream of %s, and %d bytes: %x, want nothing", name, len(b), got)
				}
			}
		}
	}
}

// P7.2, P7.3: what lies behind a row in memory doesn't count.
func TestRowsEndWhereTheyEnd(t *testing.T) {
	roomKey, roomNonce, roomB := row(64, 1), row(64, 2), row(300, 3)
	key, nonce, b := bytes.Clone(roomKey[:32]), bytes.Clone(roomNonce[:12]), bytes.Clone(roomB[:100])
	same(t, "Block", Block(roomKey[:32], 5, roomNonce[:12]), plainBlock(key, 5, nonce))
	same(t, "Stream", Stream(roomKey[:32], 5, roomNonce[:12], roomB[:100]), plainStream(key, 5, nonce, b))
	for _, n := range []int{0, 31, 33} {
		if got := Block(roomKey[:n], 5, nonce); len(got) != 0 {
			t.Errorf("Block of a key of %d bytes with others behind it: %x", n, got)
		}
	}
	for _, n := range []int{0, 11, 13} {
		if got := Stream(key, 5, roomNonce[:n], b); len(got) != 0 {
			t.Errorf("Stream of a nonce of %d bytes with others behind it: %x", n, got)
		}
	}
}

// P7.3: RFC 8439, 2.4.2 and A.2 #3.
func TestStreamOfTheStandard(t *testing.T) {
	text := "Ladies and Gentlemen of the class of '99: If I could offer you only one tip for the future, sunscreen would be it."
	want := "6e2e359a2568f98041ba0728dd0d6981e97e7aec1d4360c20a27afccfd9fae0bf91b65c5524733ab8f593dabcd62b3571639d624e65152ab8f530c359f0861d8" +
		"07ca0dbf500d6a6156a38e088a22b65e52bc514d16ccf806818ce91ab77937365af90bbf74a35be6b40b8eedf2785e42874d"
	same(t, "2.4.2", Stream(keys()[2], 1, fromHex(t, "000000000000004a00000000"), []byte(text)), fromHex(t, want))

	text = "'Twas brillig, and the slithy toves\nDid gyre and gimble in the wabe:\nAll mimsy were the borogoves,\nAnd the mome raths outgrabe."
	want = "62e6347f95ed87a45ffae7426f27a1df5fb69110044c0d73118effa95b01e5cf166d3df2d721caf9b21e5fb14c616871fd84c54f9d65b283196c7fe4f60553eb" +
		"f39c6402c42234e32a356b3e764312a61a5532055716ead6962568f87d3f3f7704c6a8d1bcd1bf4d50d6154b6da731b187b58dfd728afa36757a797ac188d1"
	key := fromHex(t, "1c9240a5eb55d38af333888604f6b5f0473917c1402b80099dca5cbc207075c0")
	same(t, "A.2 #3", Stream(key, 42, append(make([]byte, 11), 2), []byte(text)), fromHex(t, want))
}

// P7.3: bytes 0 show the blocks themselves, one behind the other; RFC 8439, A.2 #1.
func TestStreamOfNoughts(t *testing.T) {
	for _, n := range sizes() {
		got := Stream(row(32, 1), 9, row(12, 2), make([]byte, n))
		var want []byte
		for i := range n/64 + 1 {
			want = append(want, Block(row(32, 1), uint32(9+i), row(12, 2))...)
		}
		same(t, fmt.Sprintf("Stream of %d bytes 0", n), got, want[:n])
	}
	same(t, "A.2 #1", Stream(make([]byte, 32), 0, make([]byte, 12), make([]byte, 64)),
		fromHex(t, "76b8e0ada0f13d90405d6ae55386bd28bdd219b8a08ded1aa836efcc8b770dc7da41597c5157488d7724e03fb8d84a376a43b8f41518a11cc387b669b2ee6586"))
}

// P7.3: rows of all sizes from counters of all kinds, by the promise's words.
func TestStreamByItsWords(t *testing.T) {
	for i, n := range sizes() {
		for j, counter := range counters() {
			key, nonce := keys()[(i+j)%len(keys())], nonces()[(i+3*j)%len(nonces())]
			for _, b := range [][]byte{row(n, n), make([]byte, n), bytes.Repeat([]byte{255}, n)} {
				name := fmt.Sprintf("Stream of %x, %d, %x and %d bytes", key, counter, nonce, n)
				same(t, name, Stream(key, counter, nonce, b), plainStream(key, counter, nonce, b))
			}
		}
	}
}

// P7.3: each size up to more than three blocks.
func TestStreamEachSize(t *testing.T) {
	key, nonce, b := row(32, 4), row(12, 5), row(200, 6)
	want := plainStream(key, 7, nonce, b)
	for n := range len(b) + 1 {
		same(t, fmt.Sprintf("Stream of %d bytes", n), Stream(key, 7, nonce, b[:n]), want[:n])
	}
}

// P7.3: nil and no bytes are one: nothing comes of them.
func TestStreamOfNothing(t *testing.T) {
	for _, b := range [][]byte{nil, {}, row(5, 1)[:0]} {
		if got := Stream(row(32, 1), 1, row(12, 1), b); len(got) != 0 {
			t.Errorf("Stream of no bytes: %x", got)
		}
	}
}

// P7.3: behind 2^32 - 1 the counter goes on with 0, and the nonce stays as it is.
func TestCounterGoesOn(t *testing.T) {
	for _, key := range keys() {
		for _, nonce := range nonces() {
			noughts := make([]byte, 5*64)
			for before := range uint32(5) {
				var want []byte
				for i := range uint32(5) {
					want = append(want, Block(key, i-before, nonce)...)
				}
				same(t, fmt.Sprintf("Stream from 2^32 - %d on", before), Stream(key, -before, nonce, noughts), want)
			}
		}
	}
}

// P7.3: the last bytes of a block that goes over count as all others: sizes about it.
func TestSizesAboutTheLastCounter(t *testing.T) {
	key, nonce := row(32, 8), row(12, 9)
	for _, n := range []int{63, 64, 65, 127, 128, 129, 191, 192, 193} {
		b := row(n, n)
		for _, counter := range []uint32{math.MaxUint32, math.MaxUint32 - 1} {
			same(t, fmt.Sprintf("Stream of %d bytes from %d on", n, counter), Stream(key, counter, nonce, b), plainStream(key, counter, nonce, b))
		}
	}
}

// P7.3: many bytes: what OpenSSL makes of them, as its sum.
func TestStreamOfMany(t *testing.T) {
	got := sha3.Sum256(Stream(row(32, 1), 7, row(12, 2), row(100001, 3)))
	same(t, "Stream of 100001 bytes, as its SHA3-256", got[:], fromHex(t, "98138cdc190b3be43197e6ac42a7939b54e819914fa7a85344e6ccddbe3bca05"))
}

// P7.4: Stream twice is what it was.
func TestTwice(t *testing.T) {
	for _, n := range append(sizes(), 70000) {
		for _, counter := range counters() {
			key, nonce, b := row(32, n), row(12, n), row(n, n+1)
			once := Stream(key, counter, nonce, b)
			if len(once) != n {
				t.Fatalf("Stream of %d bytes has %d", n, len(once))
			}
			if n > 15 && bytes.Equal(once, b) {
				t.Fatalf("Stream of %d bytes changes nothing", n)
			}
			same(t, fmt.Sprintf("Stream twice, of %d bytes from %d on", n, counter), Stream(key, counter, nonce, once), b)
		}
	}
}

// P7.4: parted behind whole blocks, a Stream is that of the blocks, and behind it that of the others from a later counter on.
func TestParted(t *testing.T) {
	for _, n := range sizes() {
		for _, counter := range counters() {
			key, nonce, b := row(32, n), row(12, n+1), row(n, n+2)
			whole := Stream(key, counter, nonce, b)
			for blocks := range n/64 + 1 {
				cut := 64 * blocks
				parts := append(Stream(key, counter, nonce, b[:cut]), Stream(key, counter+uint32(blocks), nonce, b[cut:])...)
				same(t, fmt.Sprintf("Stream of %d bytes from %d on, parted at %d", n, counter, cut), parts, whole)
			}
		}
	}
}

// P7.4: where another counter is taken for the later part, it is another one.
func TestPartedWithAnotherCounter(t *testing.T) {
	key, nonce, b := row(32, 1), row(12, 2), row(256, 3)
	whole := Stream(key, 5, nonce, b)
	for counter := range uint32(20) {
		later := Stream(key, counter, nonce, b[128:])
		if right := bytes.Equal(later, whole[128:]); right != (counter == 7) {
			t.Errorf("two blocks from counter 5 on, and then %d: the same is %t", counter, right)
		}
	}
}

// calls are the calls that answer bytes.
func calls() map[string]func(key, nonce, b []byte) []byte {
	return map[string]func(key, nonce, b []byte) []byte{
		"Block":  func(key, nonce, _ []byte) []byte { return Block(key, 3, nonce) },
		"Stream": func(key, nonce, b []byte) []byte { return Stream(key, 3, nonce, b) },
	}
}

// P7.2, P7.3: answers are new memory, and arguments stay as they were, also those that are refused.
func TestNewMemory(t *testing.T) {
	for name, call := range calls() {
		for _, keySize := range []int{31, 32, 33} {
			for _, n := range []int{0, 1, 63, 64, 65, 200} {
				newMemory(t, name, call, keySize, n)
			}
		}
	}
}

func newMemory(t *testing.T, name string, call func(key, nonce, b []byte) []byte, keySize, n int) {
	t.Helper()
	rooms := [3][]byte{row(96, 1), row(96, 2), row(400, 3)}
	var before [3][]byte
	for i, room := range rooms {
		before[i] = bytes.Clone(room)
	}
	ask := func() []byte { return call(rooms[0][:keySize], rooms[1][:12], rooms[2][:n]) }
	first := ask()
	kept := bytes.Clone(first)
	second := ask()
	spoil(first)
	for i, room := range rooms {
		same(t, fmt.Sprintf("%s: argument %d", name, i), room, before[i])
	}
	same(t, name+": another answer", second, kept)
	for _, room := range rooms {
		spoil(room)
	}
	same(t, name+": an answer, when arguments change", second, kept)
}

// P7.2, P7.3: one row may be key, nonce and bytes, and rows may lie over each other.
func TestSharedArguments(t *testing.T) {
	room := row(200, 6)
	before := bytes.Clone(room)
	for off := range 60 {
		key, nonce, b := room[:32], room[off:off+12], room[off/2:off/2+130]
		want := plainStream(bytes.Clone(key), 1, bytes.Clone(nonce), bytes.Clone(b))
		same(t, "Stream of rows over each other", Stream(key, 1, nonce, b), want)
		same(t, "Block of rows over each other", Block(key, 1, nonce), plainBlock(bytes.Clone(key), 1, bytes.Clone(nonce)))
		same(t, "what was handed in", room, before)
	}
}

// Rule 4: the same calls have the same answers, whatever was asked between.
func TestAgain(t *testing.T) {
	for name, call := range calls() {
		key, nonce, b := row(32, 1), row(12, 2), row(150, 3)
		first := call(key, nonce, b)
		for _, c := range wrongSizes() {
			call(c[0], c[1], b)
		}
		for seed := range 20 {
			call(row(32, seed), row(12, seed), row(seed, seed))
		}
		same(t, name+" again", call(key, nonce, b), first)
	}
}

// FuzzChacha holds Block and Stream of any rows to the promises' words.
func FuzzChacha(f *testing.F) {
	f.Add(make([]byte, 32), uint32(0), make([]byte, 12), make([]byte, 64))
	f.Add(row(32, 1), uint32(math.MaxUint32), row(12, 1), row(129, 1))
	f.Add(row(31, 1), uint32(1), row(13, 1), row(3, 1))
	f.Fuzz(func(t *testing.T, key []byte, counter uint32, nonce, b []byte) {
		block, stream := Block(key, counter, nonce), Stream(key, counter, nonce, b)
		if len(key) != 32 || len(nonce) != 12 {
			if len(block) != 0 || len(stream) != 0 {
				t.Fatalf("a key of %d bytes and a nonce of %d: %x, %x", len(key), len(nonce), block, stream)
			}
			return
		}
		same(t, "Block", block, plainBlock(key, counter, nonce))
		same(t, "Stream", stream, plainStream(key, counter, nonce, b))
		same(t, "Stream twice", Stream(key, counter, nonce, stream), b)
	})
}

// BenchmarkStream tells what a datagram of the greatest size costs.
func BenchmarkStream(b *testing.B) {
	key, nonce, data := row(32, 1), row(12, 2), row(1200, 3)
	b.SetBytes(int64(len(data)))
	for range b.N {
		data = Stream(key, 1, nonce, data)
	}
}
