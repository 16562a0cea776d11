package wire

import (
	"bytes"
	"math"
	"slices"
	"testing"

	"redan/api"
)

// The chapter's examples.
func TestExamples(t *testing.T) {
	noughts := make([]byte, 16)
	puts(t, Packet{Kind: Cookie, To: 1, Mac: noughts}, append([]byte{2, 1, 0, 0, 0}, noughts...), "a cookie")
	refusesToGet(t, []byte{5}, api.ErrForm, "a byte 5")
}

// The kinds' numbers are those of the bytes.
func TestKindsNumbers(t *testing.T) {
	if Fragment != 1 || Cookie != 2 || Data != 3 || Keep != 4 {
		t.Errorf("kinds %d, %d, %d, %d", Fragment, Cookie, Data, Keep)
	}
}

// P18.1, P18.2: one packet of each kind, byte by byte, put, got and signed.
func TestBytesOfEachKind(t *testing.T) {
	mac, body := mess("mac", 16), mess("body", 20)
	for _, c := range []struct {
		name   string
		p      Packet
		head   []byte
		signed bool
	}{
		{"a fragment", Packet{Kind: 1, From: 0x04030201, To: 0x08070605, Msg: 7, Part: 9, Parts: 10, Mac: mac, Body: body}, []byte{1, 1, 2, 3, 4, 5, 6, 7, 8, 7, 9, 10}, true},
		{"a cookie", Packet{Kind: 2, To: 0x08070605, Mac: mac}, []byte{2, 5, 6, 7, 8}, false},
		{"data", Packet{Kind: 3, To: 0x08070605, Counter: 0x1817161514131211, Body: body}, []byte{3, 5, 6, 7, 8, 0x11, 0x12, 0x13, 0x14, 0x15, 0x16, 0x17, 0x18}, false},
		{"a keep", Packet{Kind: 4, To: 0x08070605, Counter: 0x1817161514131211, Body: body[:16]}, []byte{4, 5, 6, 7, 8, 0x11, 0x12, 0x13, 0x14, 0x15, 0x16, 0x17, 0x18}, false},
	} {
		all := slices.Concat(c.head, c.p.Mac, c.p.Body)
		puts(t, c.p, all, c.name)
		gets(t, all, c.p, c.name)
		var want []byte
		if c.signed {
			want = slices.Concat(c.head, c.p.Body)
		}
		sameBytes(t, Signed(c.p), want, "Signed, "+c.name)
	}
}

// P18.1: packets of each kind that may be, the least and the greatest among them.
func TestPackets(t *testing.T) {
	for name, p := range packets() {
		may(t, p, true, name)
	}
}

// P18.1: no packet is of a kind that there isn't.
func TestOtherKinds(t *testing.T) {
	for name, p := range packets() {
		for _, kind := range append(wild(), 0, 5, 6, 7, 8, 255, 256) {
			if kind >= 1 && kind <= 4 {
				t.Fatalf("kind %d is one", kind)
			}
			p.Kind = kind
			may(t, p, false, name+", of kind", kind)
		}
		for kind := range 5 {
			p.Kind = kind
			holds(t, p, name+", of kind", kind)
		}
	}
	may(t, Packet{}, false, "nothing")
	for kind := -300; kind < 300; kind++ {
		may(t, Packet{Kind: kind}, false, "nothing but a kind", kind)
	}
}

// P18.1: Msg is from 0 to 7.
func TestMsg(t *testing.T) {
	for msg := -300; msg < 600; msg++ {
		may(t, fragment(msg, 0, 1, 16, 20), msg >= 0 && msg <= 7, "Msg", msg)
		may(t, fragment(msg, 0, 2, 16, 1024), msg >= 0 && msg <= 7, "Msg", msg)
	}
	for _, msg := range wild() {
		may(t, fragment(msg, 0, 1, 16, 20), false, "Msg", msg)
	}
}

// P18.1: Parts are from 1 to 64, and Part from 0 to Parts - 1.
func TestParts(t *testing.T) {
	for parts := -70; parts < 330; parts++ {
		for _, part := range []int{-257, -256, -1, 0, 1, parts - 2, parts - 1, parts, parts + 1, parts + 255, parts + 256} {
			fits := parts >= 1 && parts <= 64 && part >= 0 && part <= parts-1
			may(t, fragment(1, part, parts, 16, 1024), fits, "Part, Parts", part, parts)
			may(t, fragment(1, part, parts, 16, 20), fits && part == parts-1, "Part, Parts, a small body", part, parts)
		}
	}
	for part := range 70 {
		for parts := range 70 {
			may(t, fragment(1, part, parts, 16, 1024), parts >= 1 && parts <= 64 && part < parts, "Part, Parts", part, parts)
		}
	}
	for _, x := range wild() {
		if x < 0 || x > 64 {
			may(t, fragment(1, 0, x, 16, 1024), false, "Parts", x)
			may(t, fragment(1, x-1, x, 16, 1024), false, "Part, Parts", x-1, x)
			may(t, fragment(1, x, x, 16, 1024), false, "Part, Parts", x, x)
			may(t, fragment(1, x, 64, 16, 1024), false, "Part", x)
		}
	}
}

// P18.1: a fragment's Body has 1 to 1024 bytes in the last part, just 1024 in one ahead of it.
func TestFragmentBodies(t *testing.T) {
	for size := range 1300 {
		may(t, fragment(1, 0, 1, 16, size), size >= 1 && size <= 1024, "the only part", size)
		may(t, fragment(1, 63, 64, 16, size), size >= 1 && size <= 1024, "the last part", size)
		may(t, fragment(1, 62, 64, 16, size), size == 1024, "the part ahead of the last one", size)
		may(t, fragment(1, 0, 2, 16, size), size == 1024, "the first part", size)
	}
	may(t, fragment(1, 0, 1, 16, 1<<16+1), false, "the only part of very much")
}

// P18.1: a Mac has 16 bytes, of a fragment and of a cookie.
func TestMacs(t *testing.T) {
	for size := range 100 {
		may(t, fragment(1, 0, 1, size, 20), size == 16, "a fragment's Mac", size)
		may(t, fragment(1, 0, 2, size, 1024), size == 16, "a fragment's Mac", size)
		may(t, cookie(size), size == 16, "a cookie's Mac", size)
	}
	for _, size := range []int{256, 256 + 16, 1 << 16, 1<<16 + 16} {
		may(t, fragment(1, 0, 1, size, 20), false, "a fragment's Mac", size)
		may(t, cookie(size), false, "a cookie's Mac", size)
	}
	// As many bytes in all, otherwise parted.
	may(t, fragment(1, 0, 1, 15, 21), false, "a byte of Mac in Body")
	may(t, fragment(1, 0, 1, 17, 19), false, "a byte of Body in Mac")
}

// P18.1: the Body of data has 16 to 1187 bytes, that of a keep 16.
func TestSealedBodies(t *testing.T) {
	for size := range 1300 {
		may(t, data(size), size >= 16 && size <= 1187, "data of", size)
		may(t, keep(size), size == 16, "a keep of", size)
	}
	may(t, data(1<<16+16), false, "data of very much")
	may(t, keep(1<<16+16), false, "a keep of very much")
}

// P18.1: From, To and Counter may be all that they can, and each of their bytes has its place.
func TestNumbers(t *testing.T) {
	numbers := []uint64{0, 1, math.MaxUint32 - 1, math.MaxUint32, math.MaxUint32 + 1, math.MaxUint64 - 1, math.MaxUint64}
	for i := range 64 {
		numbers = append(numbers, 1<<i, 1<<i-1, ^(1 << i))
	}
	for i := range 8 {
		numbers = append(numbers, 0xa5<<(8*i))
	}
	for name, p := range packets() {
		for _, x := range numbers {
			p.To = uint32(x)
			if p.Kind == Fragment {
				p.From = uint32(x >> 3)
			}
			if p.Kind == Data || p.Kind == Keep {
				p.Counter = x
			}
			may(t, p, true, name+", with", x)
		}
	}
}

// P18.1: a field that a kind does not have must be 0, or empty.
func TestFieldsNotHad(t *testing.T) {
	for name, p := range packets() {
		refused := func(field string, q Packet, of ...any) {
			t.Helper()
			may(t, q, false, name+", with "+field, of...)
		}
		for i := range 32 {
			if q := p; p.Kind != Fragment {
				q.From = 1 << i
				refused("From", q, i)
			}
		}
		for _, x := range append(wild(), 1, 2, 3, 7, 63, 64, 255, 256) {
			if q := p; p.Kind != Fragment {
				q.Msg = x
				refused("Msg", q, x)
				q = p
				q.Part = x
				refused("Part", q, x)
				q = p
				q.Parts = x
				refused("Parts", q, x)
				q.Part = x - 1
				refused("Part and Parts", q, x)
			}
		}
		for i := range 64 {
			if q := p; p.Kind == Fragment || p.Kind == Cookie {
				q.Counter = 1 << i
				refused("Counter", q, i)
			}
		}
		for _, size := range []int{1, 15, 16, 17, 1024, 1187} {
			if q := p; p.Kind == Data || p.Kind == Keep {
				q.Mac = make([]byte, size)
				refused("Mac", q, size)
			}
			if q := p; p.Kind == Cookie {
				q.Body = make([]byte, size)
				refused("Body", q, size)
			}
		}
	}
}

// P18.1: nor may several such fields be other than 0 together, though they make 0 by each other.
func TestFieldsNotHadTogether(t *testing.T) {
	for name, p := range packets() {
		if p.Kind == Fragment {
			continue
		}
		for _, x := range []int{1, 2, 7, 64, 256, math.MaxInt} {
			for i, c := range [][4]int{{x, -x, 0, 0}, {x, 0, -x, 0}, {x, 0, 0, -x}, {0, x, -x, 0}, {0, x, 0, -x}, {0, 0, x, -x}, {x, x, -x, -x}, {x, x, x, x}} {
				q := p
				q.From, q.Msg, q.Part, q.Parts = uint32(c[0]), c[1], c[2], c[3]
				may(t, q, false, name+", with several", x, i)
			}
		}
	}
}

// P18.1: what one kind has may not be had by the other ones, but by data and a keep of each other.
func TestFieldsOfOthers(t *testing.T) {
	all := []Packet{fragment(1, 0, 1, 16, 16), cookie(16), data(16), keep(16)}
	for _, p := range all {
		for _, q := range all {
			if kind := q.Kind; kind != p.Kind {
				other := p
				other.Kind = kind
				may(t, other, p.Kind >= 3 && kind >= 3, "the fields of kind, in kind", p.Kind, kind)
			}
		}
	}
	may(t, Packet{Kind: 1, From: 1, To: 1, Parts: 1, Mac: make([]byte, 16), Counter: 1, Body: make([]byte, 16)}, false, "a fragment with all")
}

// Rule 3: nil and empty lists are one.
func TestNilAndEmpty(t *testing.T) {
	for _, empty := range [][]byte{nil, {}, mess("row", 5)[:0]} {
		p := cookie(16)
		p.Body = empty
		may(t, p, true, "a cookie with an empty Body")
		for _, p := range []Packet{data(16), data(1187), keep(16)} {
			p.Mac = empty
			may(t, p, true, "a sealed one with an empty Mac")
			p.Body = empty
			may(t, p, false, "a sealed one with an empty Body")
		}
		may(t, Packet{Kind: 1, Parts: 1, Mac: empty, Body: []byte{1}}, false, "a fragment with an empty Mac")
		may(t, Packet{Kind: 1, Parts: 1, Mac: make([]byte, 16), Body: empty}, false, "a fragment with an empty Body")
		may(t, Packet{Kind: 2, Mac: empty}, false, "a cookie with an empty Mac")
		refusesToGet(t, empty, api.ErrShort, "an empty row")
	}
}

// P18.2: what is signed is the same for each Mac, and another one for each other bit of a fragment.
func TestSignedCoversAll(t *testing.T) {
	for name, p := range packets() {
		if p.Kind != Fragment {
			sameBytes(t, Signed(p), nil, "Signed, "+name)
			continue
		}
		all, ahead := plainPut(p)
		seen := map[string]int{string(Signed(p)): -1}
		for place := range 8 * len(all) {
			changed := bytes.Clone(all)
			changed[place/8] ^= 1 << (place % 8)
			q, e := Get(changed)
			if e != api.OK {
				continue
			}
			got := Signed(q)
			if at := place / 8; at >= ahead && at < ahead+16 {
				sameBytes(t, got, Signed(p), "Signed, "+name+", with a bit of Mac changed", place)
				continue
			}
			if other, there := seen[string(got)]; there {
				t.Fatalf("Signed, %s: bit %d changed is as bit %d", name, place, other)
			}
			seen[string(got)] = place
		}
	}
}

// P18.2: Signed has 16 bytes fewer than Put.
func TestSignedSizes(t *testing.T) {
	for size := 1; size <= 1024; size++ {
		if got := Signed(fragment(0, 2, 3, 16, size)); len(got) != 12+size {
			t.Fatalf("Signed of a body of %d: %d bytes", size, len(got))
		}
	}
}
