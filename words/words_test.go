package words

import (
	"bytes"
	"math"
	"math/big"
	"slices"
	"testing"
)

// numbers are edges of every count of bytes, and one number whose bytes all differ.
func numbers() []uint64 {
	out := []uint64{0, 1, 513, 0x0807060504030201, 0xf1e2d3c4b5a69788, math.MaxUint64}
	for i := range 64 {
		out = append(out, 1<<i, 1<<i-1, 1<<i+1)
	}
	return out
}

// row is a row of n bytes, another one for each seed.
func row(n, seed int) []byte {
	out := make([]byte, n)
	x := uint32(seed)*2654435761 + 12345
	for i := range n {
		x = x*1664525 + 1013904223
		out[i] = byte(x >> 24)
	}
	return out
}

// sum is what Load is promised to be, by long numbers.
func sum(b []byte) uint64 {
	total := new(big.Int)
	power := big.NewInt(1)
	for i, x := range b {
		if i == 8 {
			break
		}
		total.Add(total, new(big.Int).Mul(big.NewInt(int64(x)), power))
		power.Mul(power, big.NewInt(256))
	}
	return total.Uint64()
}

// untouched fails if a call changed one of the rows that it was handed.
func untouched(t *testing.T, name string, now, before []byte) {
	t.Helper()
	if !bytes.Equal(now, before) {
		t.Errorf("%s changed what it was handed: %v, was %v", name, now, before)
	}
}

// P1.1: Load.
func TestLoad(t *testing.T) {
	for _, c := range []struct {
		in   []byte
		want uint64
	}{
		{nil, 0},
		{[]byte{}, 0},
		{[]byte{0}, 0},
		{[]byte{255}, 255},
		{[]byte{0, 1}, 256},
		{[]byte{1, 2, 0, 0}, 513},
		{[]byte{1, 2, 3, 4, 5, 6, 7}, 0x07060504030201},
		{[]byte{1, 2, 3, 4, 5, 6, 7, 8}, 0x0807060504030201},
		{[]byte{0, 0, 0, 0, 0, 0, 0, 128}, 1 << 63},
		{[]byte{255, 255, 255, 255, 255, 255, 255, 255}, math.MaxUint64},
		{[]byte{1, 2, 3, 4, 5, 6, 7, 8, 9}, 0x0807060504030201},
		{[]byte{0, 0, 0, 0, 0, 0, 0, 0, 1, 255}, 0},
	} {
		if got := Load(c.in); got != c.want {
			t.Errorf("Load(%v) = %#x, want %#x", c.in, got, c.want)
		}
	}
	for n := range 40 {
		b := row(n, n+1)
		before := bytes.Clone(b)
		if got, want := Load(b), sum(b); got != want {
			t.Errorf("Load(%v) = %#x, want %#x", b, got, want)
		}
		untouched(t, "Load", b, before)
	}
}

// P1.1: Load looks at what a row has, not at what lies behind it in memory.
func TestLoadEndsWithTheRow(t *testing.T) {
	whole := []byte{1, 2, 3, 4, 5, 6, 7, 8}
	for n := range 9 {
		if got, want := Load(whole[:n]), sum(whole[:n:n]); got != want {
			t.Errorf("Load of %d bytes = %#x, want %#x", n, got, want)
		}
	}
}

// P1.1: Store.
func TestStore(t *testing.T) {
	for _, c := range []struct {
		x    uint64
		n    int
		want []byte
	}{
		{513, 3, []byte{1, 2, 0}},
		{513, 1, []byte{1}},
		{513, 0, nil},
		{0x0807060504030201, 7, []byte{1, 2, 3, 4, 5, 6, 7}},
		{0x0807060504030201, 8, []byte{1, 2, 3, 4, 5, 6, 7, 8}},
		{0x0807060504030201, 9, []byte{1, 2, 3, 4, 5, 6, 7, 8}},
		{0x0807060504030201, math.MaxInt, []byte{1, 2, 3, 4, 5, 6, 7, 8}},
		{0x0807060504030201, -1, nil},
		{0x0807060504030201, math.MinInt, nil},
		{math.MaxUint64, 8, []byte{255, 255, 255, 255, 255, 255, 255, 255}},
		{0, 8, make([]byte, 8)},
	} {
		if got := Store(c.x, c.n); !bytes.Equal(got, c.want) {
			t.Errorf("Store(%#x, %d) = %v, want %v", c.x, c.n, got, c.want)
		}
	}
	for _, x := range numbers() {
		for n := -2; n <= 10; n++ {
			want := []byte{}
			rest := x
			for range min(max(n, 0), 8) {
				want = append(want, byte(rest%256))
				rest /= 256
			}
			if got := Store(x, n); !bytes.Equal(got, want) {
				t.Errorf("Store(%#x, %d) = %v, want %v", x, n, got, want)
			}
		}
	}
}

// P1.2: Xor.
func TestXor(t *testing.T) {
	for _, c := range []struct{ a, b, want []byte }{
		{[]byte{5, 6, 7}, []byte{1, 1}, []byte{4, 7}},
		{[]byte{1, 1}, []byte{5, 6, 7}, []byte{4, 7}},
		{[]byte{0, 255, 0xaa}, []byte{255, 255, 0x0f}, []byte{255, 0, 0xa5}},
		{nil, nil, nil},
		{nil, []byte{1}, nil},
		{[]byte{1}, []byte{}, nil},
	} {
		if got := Xor(c.a, c.b); !bytes.Equal(got, c.want) {
			t.Errorf("Xor(%v, %v) = %v, want %v", c.a, c.b, got, c.want)
		}
	}
	for x := range 256 {
		for y := range 256 {
			got := Xor([]byte{byte(x)}, []byte{byte(y)})
			if len(got) != 1 {
				t.Fatalf("Xor of one byte each has %d", len(got))
			}
			for i := range 8 {
				just := (x>>i)%2 + (y>>i)%2
				if is := int(got[0]>>i) % 2; (is == 1) != (just == 1) {
					t.Fatalf("Xor(%d, %d) = %d: bit %d", x, y, got[0], i)
				}
			}
		}
	}
}

// P1.2: Equal.
func TestEqual(t *testing.T) {
	for _, c := range []struct {
		a, b []byte
		want bool
	}{
		{nil, nil, true},
		{nil, []byte{}, true},
		{nil, []byte{0}, false},
		{[]byte{0}, nil, false},
		{[]byte{1}, []byte{1}, true},
		{[]byte{1}, []byte{1, 2}, false},
		{[]byte{1, 2}, []byte{1}, false},
		{[]byte{1, 0}, []byte{1}, false},
		{[]byte{1, 2}, []byte{2, 1}, false},
		{[]byte{3, 3}, []byte{3, 3}, true},
		{[]byte{1, 1}, []byte{2, 2}, false},
		{[]byte{128, 128}, []byte{0, 0}, false}, // differences whose sum is 0 by 256
	} {
		if got := Equal(c.a, c.b); got != c.want {
			t.Errorf("Equal(%v, %v) = %v", c.a, c.b, got)
		}
	}
	for n := range 20 {
		a := row(n, 3)
		for i := range n {
			for bit := range 8 {
				b := bytes.Clone(a)
				b[i] ^= 1 << bit
				if Equal(a, b) || Equal(b, a) {
					t.Errorf("Equal of %d bytes that differ at byte %d, bit %d", n, i, bit)
				}
			}
		}
	}
}

// P1.2: Select.
func TestSelect(t *testing.T) {
	a, b := []byte{1, 2, 255}, []byte{4, 0, 254}
	for _, c := range []struct {
		bit        int
		a, b, want []byte
	}{
		{0, a, b, a},
		{1, a, b, b},
		{0, a, a, a},
		{1, nil, nil, nil},
		{0, nil, []byte{}, nil},
		{0, a, b[:2], nil},
		{1, a, b[:2], nil},
		{0, a[:2], b, nil},
		{1, a[:2], b, nil},
		{0, a, nil, nil},
		{1, nil, b, nil},
	} {
		if got := Select(c.bit, c.a, c.b); !bytes.Equal(got, c.want) {
			t.Errorf("Select(%d, %v, %v) = %v, want %v", c.bit, c.a, c.b, got, c.want)
		}
	}
	for _, bit := range []int{-1, -2, 2, 3, 255, 256, 257, -255, -256, 1 << 32, 1<<32 + 1, math.MaxInt, math.MinInt} {
		if got := Select(bit, a, b); len(got) != 0 {
			t.Errorf("Select(%d, %v, %v) = %v, want nothing", bit, a, b, got)
		}
	}
	for n := range 40 {
		a, b := row(n, 1), row(n, 2)
		if !bytes.Equal(Select(0, a, b), a) || !bytes.Equal(Select(1, a, b), b) {
			t.Errorf("Select of %d bytes", n)
		}
	}
}

// P1.2: Zero.
func TestZero(t *testing.T) {
	if !Zero(nil) || !Zero([]byte{}) {
		t.Error("Zero of nothing")
	}
	for n := range 20 {
		b := make([]byte, n)
		if !Zero(b) {
			t.Errorf("Zero of %d bytes 0", n)
		}
		for i := range n {
			for bit := range 8 {
				b[i] = 1 << bit
				if Zero(b) {
					t.Errorf("Zero(%v)", b)
				}
			}
			b[i] = 0
		}
	}
	if Zero([]byte{1, 255}) || Zero([]byte{128, 128}) {
		t.Error("Zero of bytes whose sum is 0")
	}
}

// P1.2: Join.
func TestJoin(t *testing.T) {
	for _, c := range []struct {
		in   [][]byte
		want []byte
	}{
		{nil, nil},
		{[][]byte{nil}, nil},
		{[][]byte{nil, {}, nil}, nil},
		{[][]byte{{1}, nil, {2}}, []byte{1, 2}},
		{[][]byte{{1, 2, 3}}, []byte{1, 2, 3}},
		{[][]byte{nil, {3}, {2, 1}, {}}, []byte{3, 2, 1}},
	} {
		if got := Join(c.in...); !bytes.Equal(got, c.want) {
			t.Errorf("Join(%v) = %v, want %v", c.in, got, c.want)
		}
	}
	if got := Join(); len(got) != 0 {
		t.Errorf("Join of nothing = %v", got)
	}
	same := row(5, 1)
	if got, want := Join(same, same, same), bytes.Repeat(same, 3); !bytes.Equal(got, want) {
		t.Errorf("Join of one row thrice = %v, want %v", got, want)
	}
	var in [][]byte
	var want []byte
	for n := range 30 {
		in = append(in, row(n, n))
		want = append(want, row(n, n)...)
	}
	if got := Join(in...); !bytes.Equal(got, want) {
		t.Errorf("Join of rows of 0 to 29 bytes = %v, want %v", got, want)
	}
}

// spoil changes all bytes that a row could reach, those behind its end too.
func spoil(b []byte) {
	b = b[:cap(b)]
	for i := range b {
		b[i] = ^b[i]
	}
}

// P1.2: what is answered is new memory, and what is handed in is not changed.
func TestNewMemory(t *testing.T) {
	calls := []struct {
		name string
		call func(a, b []byte) []byte
	}{
		{"Xor", Xor},
		{"Select 0", func(a, b []byte) []byte { return Select(0, a, b) }},
		{"Select 1", func(a, b []byte) []byte { return Select(1, a, b) }},
		{"Select 2", func(a, b []byte) []byte { return Select(2, a, b) }},
		{"Join of none", func(a, b []byte) []byte { return Join() }},
		{"Join of one", func(a, b []byte) []byte { return Join(a) }},
		{"Join of one and nothing", func(a, b []byte) []byte { return Join(nil, a, nil) }},
		{"Join of two", func(a, b []byte) []byte { return Join(a, b) }},
		{"Store", func(a, b []byte) []byte { return Store(Load(a), len(b)) }},
	}
	for _, c := range calls {
		for _, n := range []int{0, 1, 3, 8, 33} {
			// Room behind both rows: an append to one of them would be written there.
			roomA, roomB := row(2*n+64, 1), row(2*n+64, 2)
			a, b := roomA[:n], roomB[:n]
			beforeA, beforeB := bytes.Clone(roomA), bytes.Clone(roomB)
			first := c.call(a, b)
			kept := bytes.Clone(first)
			untouched(t, c.name, roomA, beforeA)
			untouched(t, c.name, roomB, beforeB)
			second := c.call(a, b)
			spoil(first)
			untouched(t, c.name+" (what was answered was changed)", roomA, beforeA)
			untouched(t, c.name+" (what was answered was changed)", roomB, beforeB)
			if !bytes.Equal(second, kept) {
				t.Errorf("%s: two answers share memory: %v, was %v", c.name, second, kept)
			}
			spoil(roomA)
			spoil(roomB)
			if !bytes.Equal(second, kept) {
				t.Errorf("%s: an answer changes with what was handed in: %v, was %v", c.name, second, kept)
			}
		}
	}
}

// P1.2: Join leaves the list of rows as it was.
func TestJoinLeavesItsList(t *testing.T) {
	in := [][]byte{row(3, 1), nil, row(4, 2)}
	before := slices.Clone(in)
	Join(in...)
	for i := range in {
		if len(in[i]) != len(before[i]) || len(in[i]) > 0 && &in[i][0] != &before[i][0] {
			t.Errorf("Join changed row %d of its list", i)
		}
	}
}

// P1.3: what is stored is loaded.
func TestStoredIsLoaded(t *testing.T) {
	for _, x := range numbers() {
		for n := range 11 {
			want := x
			if n < 8 {
				want = x % (1 << (8 * n))
			}
			if got := Load(Store(x, n)); got != want {
				t.Errorf("Load(Store(%#x, %d)) = %#x, want %#x", x, n, got, want)
			}
		}
	}
	for n := range 9 {
		b := row(n, n)
		if got := Store(Load(b), n); !bytes.Equal(got, b) {
			t.Errorf("Store(Load(%v), %d) = %v", b, n, got)
		}
	}
}

// P1.3: Xor twice is the same.
func TestXorTwice(t *testing.T) {
	for n := range 20 {
		for m := range 20 {
			a, b := row(n, 1), row(m, 2)
			if got, want := Xor(Xor(a, b), b), a[:min(n, m)]; !bytes.Equal(got, want) {
				t.Errorf("Xor twice of %v by %v = %v", a, b, got)
			}
		}
	}
}

// P1.3: two are equal just if their Xor is Zero, and they are as long.
func TestEqualByXor(t *testing.T) {
	var all [][]byte
	for n := range 6 {
		for x := range 1 << n {
			b := make([]byte, n)
			for i := range n {
				b[i] = byte(x>>i&1) << i
			}
			all = append(all, b)
		}
	}
	for _, a := range all {
		for _, b := range all {
			if got, want := Equal(a, b), len(a) == len(b) && Zero(Xor(a, b)); got != want {
				t.Errorf("Equal(%v, %v) = %v", a, b, got)
			}
		}
	}
}
