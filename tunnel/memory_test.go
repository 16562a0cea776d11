package tunnel

import (
	"bytes"
	"reflect"
	"testing"
	"unsafe"

	"redan/api"
)

// spoil changes all bytes that a row could reach, those behind its end too.
func spoil(b []byte) {
	b = b[:cap(b)]
	for i := range b {
		b[i] = ^b[i]
	}
}

// room is a row with more room behind it, in which something stands.
func room(b []byte) []byte { return append(bytes.Clone(b), row(100, 9)...)[:len(b)] }

// untouched fails if a row, or what stands behind it, isn't as room made it.
func untouched(t testing.TB, b, was []byte, name string) {
	t.Helper()
	if !bytes.Equal(b, was) || !bytes.Equal(b[:len(b)+100][len(b):], row(100, 9)) {
		t.Fatalf("%s: what was handed in was changed", name)
	}
}

// apart looks that no list of datagrams shares memory with another one, or an address with what was handed in.
func apart(t testing.TB, outs []Out, addr, name string) {
	t.Helper()
	for i, o := range outs {
		was := make([][]byte, len(outs))
		for k, x := range outs {
			was[k] = bytes.Clone(x.Bytes)
		}
		spoil(o.Bytes)
		for k, x := range outs {
			if k != i && !bytes.Equal(x.Bytes, was[k]) {
				t.Fatalf("%s: datagrams %d and %d lie in one memory", name, i, k)
			}
		}
		if addr != "" && unsafe.StringData(o.Addr) == unsafe.StringData(addr) {
			t.Fatalf("%s: an address that was handed in is told", name)
		}
		for k := range i {
			if o.Addr != "" && unsafe.StringData(o.Addr) == unsafe.StringData(outs[k].Addr) {
				t.Fatalf("%s: two addresses lie in one memory", name)
			}
		}
	}
}

// rough is an end of which each call is handed rows with room behind them, which are looked at, and spoiled
// afterwards; and so is what it answers. It is held to one that is treated well.
type rough struct {
	t    testing.TB
	x, y *Tunnel
}

// same fails unless two answers are the same, and gives one in other memory.
func (r *rough) same(name string, x, y []Out, e, f api.Errno, addr string) []Out {
	r.t.Helper()
	if e != f || !reflect.DeepEqual(x, y) {
		r.t.Fatalf("%s: %d datagrams, error %d, not %d, error %d", name, len(x), int(e), len(y), int(f))
	}
	apart(r.t, x, addr, name)
	return y
}

func (r *rough) open(addr string, chance []byte, now uint64) []Out {
	r.t.Helper()
	c := room(chance)
	x, e := r.x.Open(addr, c, now)
	untouched(r.t, c, chance, "Open")
	spoil(c)
	y, f := r.y.Open(addr, chance, now)
	return r.same("Open", x, y, e, f, addr)
}

func (r *rough) send(addr string, data []byte, now uint64) []Out {
	r.t.Helper()
	d := room(data)
	x, e := r.x.Send(addr, d, now)
	untouched(r.t, d, data, "Send")
	spoil(d)
	y, f := r.y.Send(addr, data, now)
	return r.same("Send", x, y, e, f, addr)
}

func (r *rough) ping(addr string, now uint64) []Out {
	r.t.Helper()
	x, e := r.x.Ping(addr, now)
	y, f := r.y.Ping(addr, now)
	return r.same("Ping", x, y, e, f, addr)
}

func (r *rough) tick(chance []byte, now uint64) []Out {
	r.t.Helper()
	c := room(chance)
	x := r.x.Tick(c, now)
	untouched(r.t, c, chance, "Tick")
	spoil(c)
	return r.same("Tick", x, r.y.Tick(chance, now), 0, 0, "")
}

func (r *rough) handle(addr string, datagram, chance []byte, now uint64) Event {
	r.t.Helper()
	b, c := room(datagram), room(chance)
	x, e := r.x.Handle(addr, b, c, now)
	untouched(r.t, b, datagram, "Handle, the datagram")
	untouched(r.t, c, chance, "Handle, chance")
	kept := bytes.Clone(x.Data)
	spoil(b)
	spoil(c)
	if !bytes.Equal(x.Data, kept) {
		r.t.Fatal("Handle: the data lies in the datagram")
	}
	y, f := r.y.Handle(addr, datagram, chance, now)
	if !bytes.Equal(x.Data, y.Data) || x.Got != y.Got || x.Up != y.Up {
		r.t.Fatalf("Handle: %v, not %v", x, y)
	}
	spoil(x.Data)
	spoil(r.x.Hash(addr))
	if !bytes.Equal(r.x.Hash(addr), r.y.Hash(addr)) {
		r.t.Fatal("Hash is kept")
	}
	y.Outs = r.same("Handle", x.Outs, y.Outs, e, f, addr)
	return y
}

// spoilPair changes all keys of a pair.
func spoilPair(p api.Pair) {
	for _, b := range [][]byte{p.Priv, p.Pub, p.Dk, p.Ek} {
		spoil(b)
	}
}

// roughEnd is an end by a config that is spoiled.
func roughEnd(t testing.TB, c Config) *rough {
	t.Helper()
	spoiled := twin(c)
	y, e := New(c)
	x, f := New(spoiled)
	if e != api.OK || f != api.OK {
		t.Fatalf("New: error %d and %d", int(e), int(f))
	}
	if !reflect.DeepEqual(spoiled, c) {
		t.Fatal("New changed the config")
	}
	for _, m := range spoiled.Pattern.Messages {
		clear(m.Tokens)
	}
	clear(spoiled.Pattern.Messages)
	for _, b := range [][]byte{spoiled.Prologue, spoiled.Psk, spoiled.Secret} {
		spoil(b)
	}
	spoilPair(spoiled.Own)
	for _, k := range spoiled.Known {
		spoilPair(k.Keys)
	}
	clear(spoiled.Known)
	return &rough{t, x, y}
}

// Rule 3, P23.1 to P23.5: what is handed in is not changed and not kept, what is answered is new memory.
func TestMemory(t *testing.T) {
	for _, name := range []string{"IK", "KK", "NK", "NN", "NNpsk", "XX", one, three, eight} {
		was := config(t, "a", name)
		c := twin(was)
		c.Load, was.Load = 0, 0
		a, b := roughEnd(t, config(t, "b", name)), roughEnd(t, c)
		// b opens, a asks for nothing; the other way round a cookie is asked for.
		bothWays(t, a, b, "b", "a")
		if !reflect.DeepEqual(c, was) {
			t.Errorf("%s: the config was changed", name)
		}
	}
}

// bothWays lets one open to another, which asks for a cookie, sends data, and lets time go by till all is over.
func bothWays(t *testing.T, x, y *rough, xAddr, yAddr string) {
	t.Helper()
	seen, now := 0, uint64(100)
	chance := func() []byte { seen++; return row(20, seen) }
	type letter struct {
		toX bool
		b   []byte
	}
	var way []letter
	post := func(outs []Out, toX bool) {
		for _, o := range outs {
			way = append(way, letter{toX, o.Bytes})
		}
	}
	pass := func() (v Event) {
		for len(way) > 0 {
			l := way[0]
			way = way[1:]
			if l.toX {
				v = x.handle(yAddr, l.b, chance(), now)
			} else {
				v = y.handle(xAddr, l.b, chance(), now)
			}
			post(v.Outs, !l.toX)
		}
		return v
	}
	post(x.open(yAddr, chance(), now), false)
	now += 5
	post(x.tick(chance(), now), false)
	pass()
	for _, size := range []int{0, 5, 1171} {
		post(x.send(yAddr, row(size, size), now), false)
		v := pass()
		if x.x.Up(yAddr) && y.x.Up(xAddr) && v.Got && !bytes.Equal(v.Data, row(size, size)) {
			t.Fatalf("told is %x", v.Data)
		}
	}
	post(y.ping(xAddr, now), true)
	pass()
	for range 6 {
		now += 20
		post(x.tick(chance(), now), false)
		post(y.tick(chance(), now), true)
		pass()
	}
	x.send(yAddr, nil, now)
	x.x.Close(yAddr)
	x.y.Close(yAddr)
}

// Rule 4: ends have nothing in common: each one says what it would say alone.
func TestNothingIsShared(t *testing.T) {
	var first []mail
	for round := range 3 {
		w := among(t, "NN", "a", "b", "c")
		if round == 2 {
			w.up("c", "a")
			w.ends["a"] = made(t, config(t, "a", "NN"))
		}
		w.calls = 0
		w.open(api.OK, "a", "b")
		var all []mail
		for len(w.way) > 0 {
			all = append(all, w.way[0])
			w.pass(api.OK)
		}
		if round > 0 && !reflect.DeepEqual(all, first) {
			t.Fatalf("round %d: another one says another thing", round)
		}
		first = all
	}
}
