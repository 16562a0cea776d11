package wire

import (
	"bytes"
	"crypto/sha3"
	"encoding/binary"
	"math"
	"math/rand"
	"strconv"
	"testing"

	"redan/api"
)

// fields are what a row of the chapter's table says of a kind: the greatest numbers, the least and the greatest of
// those that have both, and sizes.
type fields struct {
	from, to uint32
	msg      int
	parts    [2]int
	mac      int
	counter  uint64
	body     [2]int
}

// table is the chapter's.
func table() map[int]fields {
	return map[int]fields{
		1: {from: math.MaxUint32, to: math.MaxUint32, msg: 7, parts: [2]int{1, 64}, mac: 16, body: [2]int{1, 1024}},
		2: {to: math.MaxUint32, mac: 16},
		3: {to: math.MaxUint32, counter: math.MaxUint64, body: [2]int{16, 1187}},
		4: {to: math.MaxUint32, counter: math.MaxUint64, body: [2]int{16, 16}},
	}
}

// plainMay says the chapter's word of which packets may be.
func plainMay(p Packet) bool {
	f, there := table()[p.Kind]
	if !there || p.From > f.from || p.To > f.to || p.Counter > f.counter {
		return false
	}
	if p.Msg < 0 || p.Msg > f.msg || p.Parts < f.parts[0] || p.Parts > f.parts[1] {
		return false
	}
	if len(p.Mac) != f.mac || len(p.Body) < f.body[0] || len(p.Body) > f.body[1] {
		return false
	}
	if p.Kind != 1 {
		return p.Part == 0
	}
	last := p.Part == p.Parts-1
	return p.Part >= 0 && p.Part < p.Parts && (last || len(p.Body) == 1024)
}

// plainPut are the bytes that the chapter's table says of a packet that may be, and how many of them are ahead of Mac.
func plainPut(p Packet) ([]byte, int) {
	out := []byte{byte(p.Kind)}
	if p.Kind == 1 {
		out = binary.LittleEndian.AppendUint32(out, p.From)
	}
	out = binary.LittleEndian.AppendUint32(out, p.To)
	switch p.Kind {
	case 1:
		out = append(out, byte(p.Msg), byte(p.Part), byte(p.Parts))
	case 3, 4:
		out = binary.LittleEndian.AppendUint64(out, p.Counter)
	}
	ahead := len(out)
	return append(append(out, p.Mac...), p.Body...), ahead
}

// plainSigned says P18.2's words.
func plainSigned(p Packet) []byte {
	if p.Kind != 1 || !plainMay(p) {
		return nil
	}
	all, ahead := plainPut(p)
	return bytes.Join([][]byte{all[:ahead], all[ahead+16:]}, nil)
}

// plainGet says P18.1's words of bytes, by the places that fields have in them.
func plainGet(b []byte) (Packet, api.Errno) {
	if len(b) > 1200 {
		return Packet{}, 14
	}
	if len(b) == 0 {
		return Packet{}, 13
	}
	four := func(at int) uint32 { return binary.LittleEndian.Uint32(b[at:]) }
	var p Packet
	switch {
	case b[0] == 1 && len(b) >= 29:
		p = Packet{Kind: 1, From: four(1), To: four(5), Msg: int(b[9]), Part: int(b[10]), Parts: int(b[11]), Mac: b[12:28], Body: b[28:]}
	case b[0] == 2 && len(b) >= 5:
		p = Packet{Kind: 2, To: four(1), Mac: b[5:]}
	case (b[0] == 3 || b[0] == 4) && len(b) >= 13:
		p = Packet{Kind: int(b[0]), To: four(1), Counter: binary.LittleEndian.Uint64(b[5:]), Body: b[13:]}
	}
	if !plainMay(p) {
		return Packet{}, 40
	}
	return p, 0
}

// mess are n bytes without order.
func mess(seed string, n int) []byte { return sha3.SumSHAKE256([]byte(seed), n) }

// fragment, cookie, data and keep are packets of these sizes, whether they may be or not; what else they have is
// other than 0, and has no byte twice.
func fragment(msg, part, parts, mac, body int) Packet {
	return Packet{Kind: 1, From: 0xa4a3a2a1, To: 0xb4b3b2b1, Msg: msg, Part: part, Parts: parts, Mac: mess("mac", mac), Body: mess("body", body)}
}

func cookie(mac int) Packet { return Packet{Kind: 2, To: 0xb4b3b2b1, Mac: mess("cookie", mac)} }

func data(body int) Packet {
	return Packet{Kind: 3, To: 0xb4b3b2b1, Counter: 0xc8c7c6c5c4c3c2c1, Body: mess("data", body)}
}

func keep(body int) Packet {
	p := data(body)
	p.Kind = 4
	return p
}

// packets are some of each kind that may be, the least and the greatest ones among them.
func packets() map[string]Packet {
	return map[string]Packet{
		"a fragment of one":       fragment(0, 0, 1, 16, 300),
		"the least fragment":      fragment(0, 0, 1, 16, 1),
		"the greatest fragment":   fragment(7, 63, 64, 16, 1024),
		"a fragment ahead":        fragment(3, 1, 5, 16, 1024),
		"the last fragment":       fragment(2, 4, 5, 16, 17),
		"a fragment of noughts":   {Kind: 1, Parts: 1, Mac: make([]byte, 16), Body: make([]byte, 1)},
		"a cookie":                cookie(16),
		"a cookie of noughts":     {Kind: 2, Mac: make([]byte, 16)},
		"data":                    data(100),
		"the least data":          data(16),
		"data of 17":              data(17),
		"the greatest data":       data(1187),
		"data of noughts":         {Kind: 3, Body: make([]byte, 16)},
		"a keep":                  keep(16),
		"a keep of noughts":       {Kind: 4, Body: make([]byte, 16)},
		"a fragment of bytes 255": {Kind: 1, From: math.MaxUint32, To: math.MaxUint32, Msg: 7, Part: 0, Parts: 2, Mac: bytes.Repeat([]byte{255}, 16), Body: bytes.Repeat([]byte{255}, 1024)},
		"data of bytes 255":       {Kind: 3, To: math.MaxUint32, Counter: math.MaxUint64, Body: bytes.Repeat([]byte{255}, 16)},
	}
}

// alike tells whether two packets are the same; nil and empty lists are one.
func alike(p, q Packet) bool {
	return p.Kind == q.Kind && p.From == q.From && p.To == q.To && p.Msg == q.Msg && p.Part == q.Part && p.Parts == q.Parts &&
		p.Counter == q.Counter && bytes.Equal(p.Mac, q.Mac) && bytes.Equal(p.Body, q.Body)
}

// sameBytes fails unless bytes are the right ones.
func sameBytes(t testing.TB, got, want []byte, name string, of ...any) {
	t.Helper()
	if !bytes.Equal(got, want) {
		t.Fatalf("%s %v: %x, want %x", name, of, got, want)
	}
}

// puts fails unless Put tells those bytes.
func puts(t testing.TB, p Packet, want []byte, name string, of ...any) {
	t.Helper()
	got, e := Put(p)
	if e != api.OK {
		t.Fatalf("Put, %s %v: error %d", name, of, int(e))
	}
	sameBytes(t, got, want, "Put, "+name, of...)
}

// refusesToPut fails unless Put tells ErrArg and Signed nothing.
func refusesToPut(t testing.TB, p Packet, name string, of ...any) {
	t.Helper()
	if got, e := Put(p); e != api.ErrArg || len(got) != 0 {
		t.Fatalf("Put, %s %v: %x, error %d, want nothing, error 1", name, of, got, int(e))
	}
	if got := Signed(p); len(got) != 0 {
		t.Fatalf("Signed, %s %v: %x, want nothing", name, of, got)
	}
}

// gets fails unless Get tells that packet.
func gets(t testing.TB, b []byte, want Packet, name string, of ...any) {
	t.Helper()
	got, e := Get(b)
	if e != api.OK || !alike(got, want) {
		t.Fatalf("Get, %s %v: %+v, error %d, want %+v", name, of, got, int(e), want)
	}
}

// refusesToGet fails unless Get tells that error, and nothing beside it.
func refusesToGet(t testing.TB, b []byte, want api.Errno, name string, of ...any) {
	t.Helper()
	got, e := Get(b)
	if e != want || !alike(got, Packet{}) {
		t.Fatalf("Get, %s %v: %+v, error %d, want nothing, error %d", name, of, got, int(e), int(want))
	}
}

// holds fails unless Put and Signed of a packet, and Get of its bytes, are what the chapter's words say.
func holds(t testing.TB, p Packet, name string, of ...any) {
	t.Helper()
	if !plainMay(p) {
		refusesToPut(t, p, name, of...)
		return
	}
	all, _ := plainPut(p)
	puts(t, p, all, name, of...)
	gets(t, all, p, name, of...)
	sameBytes(t, Signed(p), plainSigned(p), "Signed, "+name, of...)
}

// holdsBytes fails unless Get of bytes, and Put of its packet, are what the chapter's words say.
func holdsBytes(t testing.TB, b []byte, name string, of ...any) {
	t.Helper()
	want, e := plainGet(b)
	if e != api.OK {
		refusesToGet(t, b, e, name, of...)
		return
	}
	gets(t, b, want, name, of...)
	puts(t, want, b, name, of...)
}

// may fails unless a packet may be, or may not, as it is said here by hand.
func may(t testing.TB, p Packet, want bool, name string, of ...any) {
	t.Helper()
	if plainMay(p) != want {
		t.Fatalf("%s %v: the test's own words say otherwise", name, of)
	}
	holds(t, p, name, of...)
}

// wild are numbers that may hardly be: far off, below 0, and such whose lowest byte or bytes may be.
func wild() []int {
	out := []int{-2, -1, math.MinInt, math.MaxInt, math.MinInt + 1, math.MaxInt - 1}
	for i := range 8 {
		for _, x := range []int{8, 16, 31, 32, 33, 62} {
			out = append(out, i+1<<x, i-1<<x)
		}
		out = append(out, i-256, i-128, i+64, i+128, i+255)
	}
	return out
}

// drawn is a packet of a kind that may be.
func drawn(r *rand.Rand, kind int) Packet {
	f := table()[kind]
	p := Packet{Kind: kind, To: r.Uint32()}
	size := f.body[0] + r.Intn(f.body[1]-f.body[0]+1)
	if kind == 1 {
		p.From, p.Msg, p.Parts = r.Uint32(), r.Intn(8), 1+r.Intn(64)
		p.Part = r.Intn(p.Parts)
		if p.Part < p.Parts-1 {
			size = 1024
		}
	}
	if kind == 3 || kind == 4 {
		p.Counter = r.Uint64() >> r.Intn(64)
	}
	seed := strconv.Itoa(r.Int())
	p.Mac, p.Body = mess("mac"+seed, f.mac), mess("body"+seed, size)
	return p
}
