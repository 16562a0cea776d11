package wire

import (
	"bytes"
	"math/rand"
	"slices"
	"testing"

	"redan/api"
)

// P18.1: ErrShort of no bytes alone, ErrLong of more than 1200, whatever they begin with, ahead of ErrForm.
func TestGetSizes(t *testing.T) {
	refusesToGet(t, nil, api.ErrShort, "no bytes")
	for first := range 256 {
		for size := 1; size < 3000; size += 1 + size/7 {
			b := bytes.Repeat([]byte{byte(first)}, size)
			holdsBytes(t, b, "bytes of one kind, as many", first, size)
		}
		refusesToGet(t, []byte{byte(first)}, api.ErrForm, "one byte", first)
		for _, size := range []int{1201, 1202, 1216, 1 << 16, 1<<16 + 29, 1 << 20} {
			b := make([]byte, size)
			b[0] = byte(first)
			refusesToGet(t, b, api.ErrLong, "too many bytes", first, size)
		}
		b := make([]byte, 1200)
		b[0] = byte(first)
		if first == 3 {
			gets(t, b, Packet{Kind: 3, Body: make([]byte, 1187)}, "1200 bytes")
		} else {
			refusesToGet(t, b, api.ErrForm, "1200 bytes", first)
		}
	}
}

// P18.1: a kind's bytes, cut anywhere, are none, but those of data and of a last fragment that still have a body.
func TestCut(t *testing.T) {
	for name, p := range packets() {
		all, ahead := plainPut(p)
		for size := range all {
			least := len(all)
			switch {
			case p.Kind == Data:
				least = 29
			case p.Kind == Fragment && p.Part == p.Parts-1:
				least = 29
			}
			switch {
			case size == 0:
				refusesToGet(t, all[:size], api.ErrShort, name+", cut at", size)
			case size < least:
				refusesToGet(t, all[:size], api.ErrForm, name+", cut at", size)
			default:
				want := p
				want.Body = p.Body[:size-ahead-len(p.Mac)]
				gets(t, all[:size], want, name+", cut at", size)
			}
		}
		for from := 1; from < len(all); from++ {
			holdsBytes(t, all[from:], name+", from", from)
		}
	}
}

// P18.1: with a byte behind them a kind's bytes are none, but those of data and of a last fragment, while there is room.
func TestBehind(t *testing.T) {
	for name, p := range packets() {
		all, _ := plainPut(p)
		for _, x := range []byte{0, 1, 255} {
			longer := append(bytes.Clone(all), x)
			want := p
			want.Body = append(bytes.Clone(p.Body), x)
			switch {
			case p.Kind == Data && len(p.Body) == 1187:
				refusesToGet(t, longer, api.ErrLong, name+", and a byte", x)
			case p.Kind == Data, p.Kind == Fragment && p.Part == p.Parts-1 && len(p.Body) < 1024:
				gets(t, longer, want, name+", and a byte", x)
			default:
				refusesToGet(t, longer, api.ErrForm, name+", and a byte", x)
			}
			for more := range 1200 {
				holdsBytes(t, append(bytes.Clone(all), bytes.Repeat([]byte{x}, more)...), name+", and bytes", x, more)
			}
		}
		holdsBytes(t, slices.Concat(all, all), name+" twice")
	}
}

// P18.1: what lies behind a row in memory isn't got.
func TestRowsEndWhereTheyEnd(t *testing.T) {
	for name, p := range packets() {
		all, _ := plainPut(p)
		room := append(bytes.Clone(all), mess("behind", 2000)...)
		for size := range all {
			holdsBytes(t, room[:size], name+", the first", size)
		}
		gets(t, room[:len(all)], p, name)
	}
}

// P18.1: a first byte that is no kind makes bytes none; one that is another kind, unless these are such bytes.
func TestFirstBytes(t *testing.T) {
	for name, p := range packets() {
		all, _ := plainPut(p)
		for first := range 256 {
			all[0] = byte(first)
			if first < 1 || first > 4 {
				refusesToGet(t, all, api.ErrForm, name+", as of kind", first)
				continue
			}
			holdsBytes(t, all, name+", as of kind", first)
		}
	}
	keeps, _ := plainPut(keep(16))
	keeps[0] = 3
	gets(t, keeps, data(16), "a keep's bytes, as of data")
	datas, _ := plainPut(data(17))
	datas[0] = 4
	refusesToGet(t, datas, api.ErrForm, "bytes of data of 17, as of a keep")
}

// P18.1: heads whose Msg, Part or Parts can't be, of all that these bytes can hold.
func TestHeads(t *testing.T) {
	small, full := fragment(0, 0, 1, 16, 20), fragment(0, 0, 1, 16, 1024)
	of := func(p Packet, msg, part, parts int, fits bool) {
		t.Helper()
		b, _ := plainPut(p)
		b[9], b[10], b[11] = byte(msg), byte(part), byte(parts)
		if !fits {
			refusesToGet(t, b, api.ErrForm, "a head of", msg, part, parts, len(p.Body))
			return
		}
		p.Msg, p.Part, p.Parts = msg, part, parts
		gets(t, b, p, "a head of", msg, part, parts, len(p.Body))
	}
	for x := range 256 {
		for y := range 256 {
			of(full, 5, x, y, y >= 1 && y <= 64 && x < y)
			of(small, 5, x, y, y >= 1 && y <= 64 && x == y-1)
			of(full, x, y, 64, x <= 7 && y < 64)
			of(small, x, y, 1, x <= 7 && y == 0)
		}
	}
}

// P18.1: each byte of a packet's may be any one, unless it is of its head; and each one is told.
func TestEachByte(t *testing.T) {
	for name, p := range packets() {
		all, _ := plainPut(p)
		for at := range all {
			for _, x := range []byte{0, 1, 2, 3, 4, 5, 7, 8, 63, 64, 65, 127, 128, 255, ^all[at]} {
				was := all[at]
				all[at] = x
				holdsBytes(t, all, name+", with a byte at", at, x)
				all[at] = was
			}
		}
	}
}

// P18.3: what is put is got, and no packet has more than 1200 bytes.
func TestPutIsGot(t *testing.T) {
	r := rand.New(rand.NewSource(18))
	greatest := 0
	check := func(p Packet) {
		t.Helper()
		b, e := Put(p)
		if e != api.OK || len(b) > 1200 {
			t.Fatalf("Put of %+v: %d bytes, error %d", p, len(b), int(e))
		}
		gets(t, b, p, "what was put")
		greatest = max(greatest, len(b))
	}
	for _, p := range packets() {
		check(p)
	}
	for i := range 8000 {
		check(drawn(r, 1+i%4))
	}
	for size := 16; size <= 1187; size++ {
		check(data(size))
	}
	if greatest != 1200 {
		t.Errorf("the greatest packet has %d bytes", greatest)
	}
}

// P18.3: what is got is put as it was, of rows about those of packets.
func TestGotIsPut(t *testing.T) {
	r := rand.New(rand.NewSource(19))
	got := map[int]int{}
	for range 40000 {
		b, _ := plainPut(drawn(r, 1+r.Intn(4)))
		if r.Intn(2) == 0 {
			b = make([]byte, 1+r.Intn(1300))
			r.Read(b)
			b[0] = byte(r.Intn(6))
		}
		for range r.Intn(3) {
			b[r.Intn(min(len(b), 12))] = byte(r.Intn(12))
		}
		p, e := Get(b)
		holdsBytes(t, b, "bytes without order")
		if e == api.OK {
			puts(t, p, b, "what was got")
			got[p.Kind]++
		}
	}
	for kind := 1; kind <= 4; kind++ {
		if got[kind] < 100 {
			t.Errorf("kind %d was got %d times", kind, got[kind])
		}
	}
}

// Rule 4: the same calls have the same answers, whatever was asked between.
func TestAgain(t *testing.T) {
	r := rand.New(rand.NewSource(20))
	for i := range 200 {
		for name, p := range packets() {
			holds(t, p, name, i)
		}
		p := drawn(r, 1+i%4)
		Put(p)
		Signed(p)
		Put(Packet{Kind: i, Msg: i, Body: mess("other", i)})
		Get(mess("other", i))
	}
}

// FuzzGet holds Get to the promises' words, for any bytes.
func FuzzGet(f *testing.F) {
	for _, p := range packets() {
		b, _ := plainPut(p)
		f.Add(b)
	}
	f.Add([]byte{})
	f.Add([]byte{5})
	f.Add(make([]byte, 1201))
	f.Fuzz(func(t *testing.T, b []byte) { holdsBytes(t, b, "any bytes") })
}

// FuzzPut holds Put and Signed to them, for any packets.
func FuzzPut(f *testing.F) {
	for _, p := range packets() {
		f.Add(p.Kind, p.From, p.To, p.Msg, p.Part, p.Parts, p.Mac, p.Counter, p.Body)
	}
	f.Fuzz(func(t *testing.T, kind int, from, to uint32, msg, part, parts int, mac []byte, counter uint64, body []byte) {
		holds(t, Packet{kind, from, to, msg, part, parts, mac, counter, body}, "any packet")
	})
}
