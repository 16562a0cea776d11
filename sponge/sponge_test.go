package sponge

import (
	"bytes"
	"crypto/sha3"
	"encoding/hex"
	"math"
	"testing"

	"redan/keccak"
)

// row is a row of n bytes, another one for each seed.
func row(n, seed int) []byte {
	out := make([]byte, n)
	x := uint32(seed)*2654435761 + 12345
	for i := range n {
		x = x*1664525 + 1013904223
		out[i] = byte(x >> 24)
	}
	return out
}

// lengths are no bytes, a few, and for up to four blocks of a rate: just them, one fewer and one more.
func lengths(rate int) []int {
	out := []int{0, 1, 2, 7, 8, 9, 500}
	for blocks := 1; blocks <= 4; blocks++ {
		for _, n := range []int{blocks*rate - 2, blocks*rate - 1, blocks * rate, blocks*rate + 1} {
			if n >= 0 {
				out = append(out, n)
			}
		}
	}
	return out
}

// suffixes are those of the standard, nothing, all bits, and those that meet the bit of the last byte.
func suffixes() []byte { return []byte{0, 1, 6, 31, 127, 128, 134, 159, 255} }

// wrongRates are rates that there aren't.
func wrongRates() []int {
	return []int{0, -1, -8, -136, -200, 201, 208, 256, 1600, math.MaxInt32, math.MaxInt, math.MinInt}
}

// padded says the chapter's words of it: the suffix, noughts up to a multiple of the rate, 128 on the last byte.
func padded(rate int, suffix byte, b []byte) []byte {
	out := append(bytes.Clone(b), suffix)
	for len(out)%rate != 0 {
		out = append(out, 0)
	}
	out[len(out)-1] ^= 128
	return out
}

// stateBytes are the bytes of a state's lanes, one behind the other, each the lowest first.
func stateBytes(a [25]uint64) []byte {
	var out []byte
	for _, lane := range a {
		for range 8 {
			out = append(out, byte(lane%256))
			lane /= 256
		}
	}
	return out
}

// fromBytes is the state of 200 bytes.
func fromBytes(b []byte) [25]uint64 {
	var out [25]uint64
	for lane := range 25 {
		for i := 7; i >= 0; i-- {
			out[lane] = out[lane]*256 + uint64(b[8*lane+i])
		}
	}
	return out
}

// plainAbsorb says the words of P3.1 byte by byte.
func plainAbsorb(rate int, suffix byte, b []byte) [25]uint64 {
	state := make([]byte, 200)
	whole := padded(rate, suffix, b)
	for start := 0; start < len(whole); start += rate {
		for i := range rate {
			state[i] ^= whole[start+i]
		}
		state = stateBytes(keccak.F(fromBytes(state)))
	}
	return fromBytes(state)
}

// plainShake says the words of P3.2: n bytes of the state's first ones, then of F of it, and so on.
func plainShake(rate int, b []byte, n int) []byte {
	var out []byte
	state := plainAbsorb(rate, 31, b)
	for len(out) < n {
		out = append(out, stateBytes(state)[:rate]...)
		state = keccak.F(state)
	}
	return out[:n]
}

// shakes are the two makers of an Xof, with the rate and the library's sum that each is held against.
func shakes() []struct {
	name string
	call func([]byte) *Xof
	rate int
	want func([]byte, int) []byte
} {
	return []struct {
		name string
		call func([]byte) *Xof
		rate int
		want func([]byte, int) []byte
	}{
		{"Shake128", Shake128, 168, sha3.SumSHAKE128},
		{"Shake256", Shake256, 136, sha3.SumSHAKE256},
	}
}

// begins fails unless bytes begin with a text's, which is hexadecimal.
func begins(t *testing.T, name string, got []byte, want string) {
	t.Helper()
	head, err := hex.DecodeString(want)
	if err != nil {
		t.Fatal(err)
	}
	if !bytes.HasPrefix(got, head) {
		t.Errorf("%s: %x, want %s ..", name, got, want)
	}
}

// P3.1: every rate, with lengths about its blocks.
func TestAbsorbEachRate(t *testing.T) {
	for rate := 1; rate <= 200; rate++ {
		for _, n := range lengths(rate) {
			b := row(n, rate+n)
			for _, suffix := range []byte{6, 31} {
				if got, want := Absorb(rate, suffix, b), plainAbsorb(rate, suffix, b); got != want {
					t.Fatalf("Absorb(%d, %d, %d bytes): %x, want %x", rate, suffix, n, got, want)
				}
			}
		}
	}
}

// P3.1: every count of bytes up to some blocks, of rates at the edges and those of the sums.
func TestAbsorbEachLength(t *testing.T) {
	for _, rate := range []int{1, 2, 7, 8, 9, 72, 136, 168, 199, 200} {
		for n := range 2*rate + 20 {
			b := row(n, n)
			if got, want := Absorb(rate, 6, b), plainAbsorb(rate, 6, b); got != want {
				t.Fatalf("Absorb(%d, 6, %d bytes): %x, want %x", rate, n, got, want)
			}
		}
	}
}

// P3.1: the suffix, also where it is a block's last byte and meets the bit that is added there.
func TestAbsorbSuffix(t *testing.T) {
	for _, rate := range []int{1, 2, 8, 72, 136, 168, 200} {
		for _, n := range lengths(rate) {
			b := row(n, 1)
			for _, suffix := range suffixes() {
				if got, want := Absorb(rate, suffix, b), plainAbsorb(rate, suffix, b); got != want {
					t.Fatalf("Absorb(%d, %d, %d bytes): %x, want %x", rate, suffix, n, got, want)
				}
			}
		}
	}
}

// P3.1: states that were worked out by hand, up to F.
func TestAbsorbByHand(t *testing.T) {
	one := keccak.F([25]uint64{6 ^ 128})
	for _, c := range []struct {
		name   string
		rate   int
		suffix byte
		b      []byte
		want   [25]uint64
	}{
		{"nothing at rate 1", 1, 6, nil, one},
		{"one byte at rate 1", 1, 31, []byte{5}, byteOver(keccak.F([25]uint64{5}), 31^128)},
		{"a suffix of 128 as the last byte", 1, 128, nil, keccak.F([25]uint64{})},
		{"nothing at rate 2", 2, 6, nil, keccak.F([25]uint64{0x8006})},
		{"nothing at rate 8", 8, 6, nil, keccak.F([25]uint64{1<<63 | 6})},
		{"seven bytes at rate 8", 8, 6, []byte{1, 2, 3, 4, 5, 6, 7}, keccak.F([25]uint64{0x8607060504030201})},
		{"eight bytes at rate 9", 9, 6, []byte{1, 2, 3, 4, 5, 6, 7, 8}, keccak.F([25]uint64{0x0807060504030201, 0x86})},
		{"eight bytes at rate 10", 10, 6, []byte{1, 2, 3, 4, 5, 6, 7, 8}, keccak.F([25]uint64{0x0807060504030201, 0x8006})},
		{"nothing at rate 200", 200, 6, nil, keccak.F([25]uint64{0: 6, 24: 1 << 63})},
		{"nothing at rate 199", 199, 6, nil, keccak.F([25]uint64{0: 6, 24: 1 << 55})},
	} {
		if got := Absorb(c.rate, c.suffix, c.b); got != c.want {
			t.Errorf("Absorb of %s: %x, want %x", c.name, got, c.want)
		}
	}
}

// byteOver is F of a state with a byte laid over its first one.
func byteOver(a [25]uint64, x uint64) [25]uint64 {
	a[0] ^= x
	return keccak.F(a)
}

// P3.1: of a rate that there isn't: the state of noughts.
func TestAbsorbWrongRate(t *testing.T) {
	for _, rate := range wrongRates() {
		for _, n := range []int{0, 1, 200, 201, 500} {
			for _, suffix := range suffixes() {
				if got := Absorb(rate, suffix, row(n, 1)); got != ([25]uint64{}) {
					t.Errorf("Absorb(%d, %d, %d bytes): %x, want noughts", rate, suffix, n, got)
				}
			}
		}
	}
	for _, rate := range []int{1, 200} {
		if Absorb(rate, 6, nil) == ([25]uint64{}) {
			t.Errorf("Absorb of rate %d is noughts", rate)
		}
	}
}

// P3.1: nil and no bytes are one.
func TestAbsorbNil(t *testing.T) {
	for _, rate := range []int{1, 72, 136, 168, 200} {
		if Absorb(rate, 6, nil) != Absorb(rate, 6, []byte{}) {
			t.Errorf("Absorb of nil at rate %d isn't that of no bytes", rate)
		}
	}
}

// P3.2: the chapter's examples, and others that are known.
func TestExamples(t *testing.T) {
	begins(t, "Sum256 of nothing", Sum256(nil), "a7ffc6f8bf1ed76651c14756a061d662f580ff4de43b49fa82d80a4b80f8434a")
	begins(t, "Sum256 of abc", Sum256([]byte("abc")), "3a985da74fe225b2045c172d6bd390bd855f086e3e9d525b46bfe24511431532")
	begins(t, "Sum512 of nothing", Sum512(nil), "a69f73cca23a9ac5c8b567dc185a756e97c982164fe25859e0d1dcc1475c80a6"+
		"15b2123af1f5f94c11e3e9402c3ac558f500199d95b6d3e301758586281dcd26")
	begins(t, "Sum512 of abc", Sum512([]byte("abc")), "b751850b1a57168a5693cd924b6b096e08f621827444f70d884f5d0240d2712e"+
		"10e116e9192af3c91a7ec57647e3934057340b4cf408d5a56592f8274eec53f0")
	begins(t, "Shake128 of nothing", Shake128(nil).Read(32), "7f9c2ba4e88f827d616045507605853ed73b8093f6efbc88eb1a6eacfa66ef26")
	begins(t, "Shake256 of nothing", Shake256(nil).Read(32), "46b9dd2b0ba88d13233b3feb743eeb243fcd52ea62b81b82b50c27646ed5762f")
}

// P3.2: the sums, by the words of the promise and by the standard, of each count of bytes up to some blocks.
func TestSums(t *testing.T) {
	for n := range 450 {
		b := row(n, n+3)
		want := sha3.Sum256(b)
		if got := Sum256(b); !bytes.Equal(got, want[:]) || !bytes.Equal(got, stateBytes(plainAbsorb(136, 6, b))[:32]) {
			t.Fatalf("Sum256 of %d bytes: %x, want %x", n, got, want)
		}
		long := sha3.Sum512(b)
		if got := Sum512(b); !bytes.Equal(got, long[:]) || !bytes.Equal(got, stateBytes(plainAbsorb(72, 6, b))[:64]) {
			t.Fatalf("Sum512 of %d bytes: %x, want %x", n, got, long)
		}
	}
}

// P3.2: the sums of many bytes.
func TestSumsOfMany(t *testing.T) {
	b := bytes.Repeat([]byte{'a'}, 100000)
	want, long := sha3.Sum256(b), sha3.Sum512(b)
	if got := Sum256(b); !bytes.Equal(got, want[:]) {
		t.Errorf("Sum256 of 100000 bytes: %x, want %x", got, want)
	}
	if got := Sum512(b); !bytes.Equal(got, long[:]) {
		t.Errorf("Sum512 of 100000 bytes: %x, want %x", got, long)
	}
}

// P3.2: what an Xof gives, by the words of the promise and by the standard, for lengths about the blocks of b and of what is read.
func TestShake(t *testing.T) {
	for _, s := range shakes() {
		for _, n := range lengths(s.rate) {
			b := row(n, n)
			for _, size := range lengths(s.rate) {
				got := s.call(b).Read(size)
				if len(got) != size {
					t.Fatalf("%s of %d bytes: Read(%d) has %d bytes", s.name, n, size, len(got))
				}
				if !bytes.Equal(got, s.want(b, size)) || !bytes.Equal(got, plainShake(s.rate, b, size)) {
					t.Fatalf("%s of %d bytes: Read(%d) = %x, want %x", s.name, n, size, got, s.want(b, size))
				}
			}
		}
	}
}

// P3.2: n of 0 and below 0 reads nothing, and takes nothing from what comes next, wherever in a block it is asked.
func TestReadNothing(t *testing.T) {
	for _, s := range shakes() {
		for _, ahead := range []int{0, 1, s.rate - 1, s.rate, s.rate + 1, 2 * s.rate} {
			x := s.call([]byte("some"))
			want := s.want([]byte("some"), ahead+50)
			x.Read(ahead)
			for _, n := range []int{0, -1, -2, -50, math.MinInt32, math.MinInt} {
				if got := x.Read(n); len(got) != 0 {
					t.Errorf("%s: Read(%d) behind %d bytes = %x, want nothing", s.name, n, ahead, got)
				}
			}
			if got := x.Read(50); !bytes.Equal(got, want[ahead:]) {
				t.Errorf("%s: what comes behind nothing, behind %d bytes: %x, want %x", s.name, ahead, got, want[ahead:])
			}
		}
	}
}

// P3.2: of nil: nothing.
func TestReadOfNil(t *testing.T) {
	var x *Xof
	for _, n := range []int{math.MinInt, -1, 0, 1, 136, 168, 1000, math.MaxInt} {
		if got := x.Read(n); len(got) != 0 {
			t.Errorf("Read(%d) of nil = %x, want nothing", n, got)
		}
	}
}

// Rule 1: a call ends, and never panics: of an Xof that nobody made, and of more bytes than one answer may have.
func TestReadEnds(t *testing.T) {
	for _, n := range []int{math.MinInt, -1, 0, 1, 1000, math.MaxInt} {
		new(Xof).Read(n)
	}
	for _, s := range shakes() {
		for _, n := range []int{math.MaxInt32 + 1, 1 << 40, math.MaxInt} {
			s.call(nil).Read(n)
		}
	}
}

// P3.3: pieces of one size, of all sizes up to more than a block.
func TestPiecesOfOneSize(t *testing.T) {
	for _, s := range shakes() {
		b := row(77, 5)
		want := s.want(b, 1000)
		for size := 1; size <= s.rate+10; size++ {
			var got []byte
			for x := s.call(b); len(got) < len(want); {
				got = append(got, x.Read(min(size, len(want)-len(got)))...)
			}
			if !bytes.Equal(got, want) {
				t.Fatalf("%s read in pieces of %d bytes: %x, want %x", s.name, size, got, want)
			}
		}
	}
}

// P3.3: two pieces, parted at each place about the ends of blocks.
func TestTwoPieces(t *testing.T) {
	for _, s := range shakes() {
		b := row(200, 6)
		const size = 600
		want := s.want(b, size)
		for cut := range size + 1 {
			x := s.call(b)
			got := append(bytes.Clone(x.Read(cut)), x.Read(size-cut)...)
			if !bytes.Equal(got, want) {
				t.Fatalf("%s parted at %d: %x, want %x", s.name, cut, got, want)
			}
		}
	}
}

// P3.3: pieces of sizes that look like chance, nothing among them.
func TestUnevenPieces(t *testing.T) {
	for _, s := range shakes() {
		for seed := range 20 {
			b := row(seed*13, seed)
			var got []byte
			x := s.call(b)
			for i, size := range row(40, seed+100) {
				if i%5 == 4 {
					size = 0
				}
				got = append(got, x.Read(int(size))...)
			}
			if want := s.want(b, len(got)); !bytes.Equal(got, want) {
				t.Fatalf("%s in uneven pieces, seed %d: %x, want %x", s.name, seed, got, want)
			}
		}
	}
}

// spoil changes all bytes that a row could reach, those behind its end too.
func spoil(b []byte) {
	b = b[:cap(b)]
	for i := range b {
		b[i] = ^b[i]
	}
}

// Rule 3: b isn't changed, nor what lies behind it in memory.
func TestBytesAreLeft(t *testing.T) {
	calls := map[string]func([]byte){
		"Absorb":   func(b []byte) { Absorb(136, 6, b) },
		"Absorb 1": func(b []byte) { Absorb(1, 6, b) },
		"Sum256":   func(b []byte) { Sum256(b) },
		"Sum512":   func(b []byte) { Sum512(b) },
		"Shake128": func(b []byte) { Shake128(b).Read(400) },
		"Shake256": func(b []byte) { Shake256(b).Read(400) },
	}
	for name, call := range calls {
		for _, n := range []int{0, 1, 71, 72, 73, 135, 136, 137, 167, 168, 169, 300} {
			// Room behind b: a suffix that is put behind it would be written there.
			room := row(n+400, n)
			before := bytes.Clone(room)
			call(room[:n])
			if !bytes.Equal(room, before) {
				t.Errorf("%s changed what it was handed, %d bytes", name, n)
			}
		}
	}
}

// P3.1: what lies behind b in memory is not taken in.
func TestBytesEnd(t *testing.T) {
	for _, n := range []int{0, 1, 71, 72, 135, 136, 137, 167, 168, 199, 200} {
		room := row(600, n)
		for _, rate := range []int{1, 7, 72, 136, 168, 200} {
			if Absorb(rate, 6, room[:n]) != Absorb(rate, 6, bytes.Clone(room[:n])) {
				t.Errorf("Absorb of %d bytes at rate %d hangs on what lies behind them", n, rate)
			}
		}
	}
}

// P3.2: b isn't kept: an Xof gives the same when b has changed since.
func TestBytesAreNotKept(t *testing.T) {
	for _, s := range shakes() {
		for _, n := range []int{1, s.rate - 1, s.rate, s.rate + 1, 500} {
			b := row(n, 9)
			want := s.want(b, 600)
			x := s.call(b)
			spoil(b)
			got := bytes.Clone(x.Read(300))
			spoil(b[:n/2])
			if got = append(got, x.Read(300)...); !bytes.Equal(got, want) {
				t.Errorf("%s of %d bytes that changed: %x, want %x", s.name, n, got, want)
			}
		}
	}
}

// P3.2: sums are new memory.
func TestSumsAreNew(t *testing.T) {
	for name, call := range map[string]func([]byte) []byte{"Sum256": Sum256, "Sum512": Sum512} {
		b := row(100, 4)
		before := bytes.Clone(b)
		one, two := call(b), call(b)
		kept := bytes.Clone(two)
		spoil(one)
		if !bytes.Equal(two, kept) || !bytes.Equal(call(b), kept) {
			t.Errorf("%s: what is answered hangs on an earlier answer", name)
		}
		if !bytes.Equal(b, before) {
			t.Errorf("%s: what is answered lies in what was handed in", name)
		}
	}
}

// P3.2: what is read is new memory: it stays while more is read, and may be changed.
func TestReadIsNew(t *testing.T) {
	for _, s := range shakes() {
		for _, size := range []int{1, 3, 8, s.rate - 1, s.rate, s.rate + 1, 400} {
			x := s.call([]byte("text"))
			want := s.want([]byte("text"), 3*size)
			first := x.Read(size)
			second := x.Read(size)
			if !bytes.Equal(first, want[:size]) {
				t.Errorf("%s: %d bytes that were read changed when more were", s.name, size)
			}
			spoil(first)
			if !bytes.Equal(second, want[size:2*size]) {
				t.Errorf("%s: two answers of %d bytes share memory", s.name, size)
			}
			spoil(second)
			if third := x.Read(size); !bytes.Equal(third, want[2*size:]) {
				t.Errorf("%s: %x is read behind answers that were changed, want %x", s.name, third, want[2*size:])
			}
		}
	}
}

// Rule 4: each Xof stands for itself, those of the same bytes too.
func TestXofsApart(t *testing.T) {
	for _, s := range shakes() {
		b := row(50, 8)
		want := s.want(b, 400)
		x, y := s.call(b), s.call(b)
		x.Read(s.rate + 5)
		Sum256(b)
		if got := y.Read(400); !bytes.Equal(got, want) {
			t.Errorf("%s: an Xof hangs on another one: %x, want %x", s.name, got, want)
		}
		if got := x.Read(100); !bytes.Equal(got, want[s.rate+5:s.rate+105]) {
			t.Errorf("%s: an Xof hangs on another one: %x, want %x", s.name, got, want[s.rate+5:s.rate+105])
		}
	}
}
