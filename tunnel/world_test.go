package tunnel

import (
	"bytes"
	"encoding/binary"
	"testing"

	"redan/api"
	"redan/wire"
)

// mail is a datagram on the way.
type mail struct {
	from, to string
	b        []byte
}

// world are ends, each at an address, and what is on the way between them.
type world struct {
	t     testing.TB
	ends  map[string]*both
	way   []mail
	now   uint64
	calls int // how many had chance
	last  Event
}

// among is a world with these ends, by one pattern.
func among(t testing.TB, name string, addrs ...string) *world {
	t.Helper()
	w := &world{t: t, ends: map[string]*both{}, now: 1000}
	for _, addr := range addrs {
		w.ends[addr] = made(t, config(t, addr, name))
	}
	return w
}

// with puts another end in the place of one, by its config changed.
func (w *world) with(addr string, change func(c *Config)) {
	w.t.Helper()
	c := w.ends[addr].p.c
	change(&c)
	w.ends[addr] = made(w.t, c)
}

// chance is another one for each call.
func (w *world) chance() []byte {
	w.calls++
	return binary.LittleEndian.AppendUint32([]byte("chance"), uint32(w.calls))
}

// sent puts what an end sends on the way.
func (w *world) sent(from string, outs []Out) {
	for _, o := range outs {
		w.way = append(w.way, mail{from, o.Addr, bytes.Clone(o.Bytes)})
	}
}

// open opens, and looks for this error.
func (w *world) open(want api.Errno, from, to string) {
	w.t.Helper()
	outs, e := w.ends[from].open(to, w.chance(), w.now)
	w.is("Open", e, want)
	w.sent(from, outs)
}

// send sends data, and looks for this error.
func (w *world) send(want api.Errno, from, to string, data string) {
	w.t.Helper()
	outs, e := w.ends[from].send(to, []byte(data), w.now)
	w.is("Send", e, want)
	w.sent(from, outs)
}

// ping pings, and looks for this error.
func (w *world) ping(want api.Errno, from, to string) {
	w.t.Helper()
	outs, e := w.ends[from].ping(to, w.now)
	w.is("Ping", e, want)
	w.sent(from, outs)
}

// tick lets an end's time go by, and looks for that many datagrams.
func (w *world) tick(addr string, count int) {
	w.t.Helper()
	outs := w.ends[addr].tick(w.chance(), w.now)
	if len(outs) != count {
		w.t.Fatalf("Tick of %s at %d: %d datagrams, not %d", addr, w.now, len(outs), count)
	}
	w.sent(addr, outs)
}

// is fails unless an error is that one.
func (w *world) is(name string, e, want api.Errno) {
	w.t.Helper()
	if e != want {
		w.t.Fatalf("%s: error %d, not %d", name, int(e), int(want))
	}
}

// take takes that one off the way.
func (w *world) take(i int) mail {
	w.t.Helper()
	if i >= len(w.way) {
		w.t.Fatalf("there are %d on the way", len(w.way))
	}
	m := w.way[i]
	w.way = append(append([]mail(nil), w.way[:i]...), w.way[i+1:]...)
	return m
}

// gives hands a datagram to whom it is for, looks for this error, and puts what is sent on the way.
func (w *world) gives(want api.Errno, m mail) Event {
	w.t.Helper()
	v, e := w.ends[m.to].handle(m.from, m.b, w.chance(), w.now)
	w.is("Handle", e, want)
	w.sent(m.to, v.Outs)
	w.last = v
	return v
}

// pass hands the first one on, and looks for this error.
func (w *world) pass(want api.Errno) Event {
	w.t.Helper()
	return w.gives(want, w.take(0))
}

// passes hands so many on, all of which are taken.
func (w *world) passes(n int) Event {
	w.t.Helper()
	var v Event
	for range n {
		v = w.pass(api.OK)
	}
	return v
}

// through hands on what there is, till nothing is on the way.
func (w *world) through() {
	w.t.Helper()
	for len(w.way) > 0 {
		w.pass(api.OK)
	}
}

// up opens, and hands on all that comes of it: both ends have a session with each other.
func (w *world) up(from, to string) {
	w.t.Helper()
	w.open(api.OK, from, to)
	w.through()
	w.ups(from, to, true)
	w.ups(to, from, true)
	if !bytes.Equal(w.ends[from].x.Hash(to), w.ends[to].x.Hash(from)) {
		w.t.Fatal("two sums")
	}
}

// ups looks whether an end has a session with an address.
func (w *world) ups(at, addr string, want bool) {
	w.t.Helper()
	if got := w.ends[at].x.Up(addr); got != want {
		w.t.Fatalf("%s: Up of %s: %v", at, addr, got)
	}
}

// peers looks for so many peers.
func (w *world) peers(at string, want int) {
	w.t.Helper()
	if got := w.ends[at].x.Peers(); got != want {
		w.t.Fatalf("%s: %d peers, not %d", at, got, want)
	}
}

// talks sends data both ways, each of which is told.
func (w *world) talks(x, y string) {
	w.t.Helper()
	w.tells(x, y, "from "+x)
	w.tells(y, x, "from "+y)
}

// tells sends data that is told.
func (w *world) tells(from, to, data string) {
	w.t.Helper()
	w.send(api.OK, from, to, data)
	v := w.gives(api.OK, w.take(len(w.way)-1))
	if !v.Got || string(v.Data) != data || v.Up || len(v.Outs) > 0 {
		w.t.Fatalf("%q: told is %q, Got %v, Up %v", data, v.Data, v.Got, v.Up)
	}
}

// packet is that one on the way.
func (w *world) packet(i int) wire.Packet {
	w.t.Helper()
	if i >= len(w.way) {
		w.t.Fatalf("there are %d on the way", len(w.way))
	}
	return got(w.t, w.way[i].b)
}

// got is a datagram's packet.
func got(t testing.TB, b []byte) wire.Packet {
	t.Helper()
	p, e := wire.Get(b)
	if e != api.OK {
		t.Fatalf("%x: no packet: error %d", b, int(e))
	}
	return p
}

// put are a packet's bytes.
func put(t testing.TB, p wire.Packet) []byte {
	t.Helper()
	b, e := wire.Put(p)
	if e != api.OK {
		t.Fatalf("%v: no packet that may be", p)
	}
	return b
}

// mailOf is a packet on the way.
func (w *world) mailOf(from, to string, p wire.Packet) mail {
	w.t.Helper()
	return mail{from, to, put(w.t, p)}
}

// none looks that nothing came of a call.
func (w *world) none(v Event) {
	w.t.Helper()
	if len(v.Outs) > 0 || len(v.Data) > 0 || v.Got || v.Up {
		w.t.Fatalf("something came: %d datagrams, %q, Got %v, Up %v", len(v.Outs), v.Data, v.Got, v.Up)
	}
}
