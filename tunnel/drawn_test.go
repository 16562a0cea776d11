package tunnel

import (
	"bytes"
	"fmt"
	"math"
	"math/rand"
	"testing"

	"redan/api"
	"redan/frag"
	"redan/session"
	"redan/wire"
)

// draft is a world in which a source of small numbers tells what is done.
type draft struct {
	*world
	next   func(n int) int
	unique bool // has each session keys of its own: what one end was told is told once
	told   map[string]bool
	texts  map[string]bool // what was sent
	past   []mail
	came   map[string]int
}

// some is one of a list.
func some[T any](next func(n int) int, list ...T) T { return list[next(len(list))] }

// drawnConfig are bounds that are near mostly.
func drawnConfig(next func(n int) int, c Config) Config {
	c.Rules = session.Rules{
		Retry: uint64(next(8)), RetryMax: uint64(next(30)), Tries: next(5) - 1,
		Rekey: uint64(20 + next(60)), Expire: uint64(40 + next(100)),
		RekeyCount: uint64(3 + next(10)), ExpireCount: uint64(5 + next(20)),
	}
	c.Frags = frag.Limits{Peer: some(next, 20000, 5000, 2048, 1100), All: some(next, 40000, 9000, 3000), Age: uint64(next(40))}
	c.Peers, c.Load = some(next, 1, 2, 3, 9), some(next, 9, 9, 9, 3, 2, 1, 0)
	c.Period = uint64(next(30))
	switch next(12) {
	case 0:
		c.Own = api.Pair{}
	case 1:
		c.Psk = nil
	case 2:
		c.Known = c.Known[next(len(c.Known)):]
	case 3:
		c.Known = append([]Peer(nil), c.Known...)
		c.Known[0].Keys.Pub = make([]byte, 32)
	}
	return c
}

// drawn is a world of three ends, by a pattern.
func drawn(t testing.TB, name string, next func(n int) int, came map[string]int) *draft {
	t.Helper()
	w := among(t, name)
	w.now = uint64(next(200))
	for _, addr := range []string{"a", "b", "c"} {
		w.ends[addr] = made(t, drawnConfig(next, config(t, addr, name)))
	}
	// Without a secret of both sides' chance all sessions have the same keys.
	return &draft{world: w, next: next, unique: name != one && name != two, told: map[string]bool{}, texts: map[string]bool{}, came: came}
}

// addr is an end's.
func (d *draft) addr() string { return some(d.next, "a", "b", "a", "b", "c") }

// ends are one end and the address of another one, mostly.
func (d *draft) pair() (from, to string) {
	switch d.next(5) {
	case 0:
		return d.addr(), d.addr()
	case 1, 2:
		return "a", "b"
	}
	return "b", "a"
}

// note counts what came of a call.
func (d *draft) note(call string, e api.Errno) { d.came[fmt.Sprint(call, " ", int(e))]++ }

// step does one thing.
func (d *draft) step() {
	d.t.Helper()
	from, to := d.pair()
	end := d.ends[from]
	switch d.next(20) {
	case 0, 1:
		outs, e := end.open(to, d.chance(), d.now)
		d.note("open", e)
		d.sent(from, outs)
	case 2, 3, 4:
		text := fmt.Sprint("text ", len(d.texts))
		if d.next(20) == 0 {
			text += string(make([]byte, 1160+d.next(30)))
		}
		d.texts[text] = true
		outs, e := end.send(to, []byte(text), d.now)
		d.note("send", e)
		d.sent(from, outs)
	case 5:
		outs, e := end.ping(to, d.now)
		d.note("ping", e)
		d.sent(from, outs)
	case 6:
		d.now += uint64(d.next(9))
		d.sent(from, end.tick(d.chance(), d.now))
	case 7:
		d.later()
	case 8:
		if d.next(6) == 0 {
			d.note("close", end.close(to))
		}
	case 9:
		d.forged(from, to)
	default:
		for range 1 + d.next(4) {
			d.pass()
		}
	}
}

// later lets time go by, a little mostly, and backwards at times.
func (d *draft) later() {
	switch d.next(8) {
	case 0:
		d.now += uint64(d.next(150))
	case 1:
		d.now -= min(d.now, uint64(d.next(20)))
	case 2:
		was := d.now
		d.now = math.MaxUint64
		d.ends[d.addr()].tick(d.chance(), d.now)
		d.now = was
	default:
		d.now += uint64(d.next(12))
	}
	for _, addr := range []string{"a", "b", "c"} {
		d.sent(addr, d.ends[addr].tick(d.chance(), d.now))
	}
}

// forged hands something on that nobody sent.
func (d *draft) forged(from, to string) {
	d.t.Helper()
	n := uint32(d.next(4))
	var p wire.Packet
	switch d.next(5) {
	case 0:
		p = wire.Packet{Kind: wire.Fragment, From: n, Msg: d.next(5), Parts: 1, Mac: zeros, Body: some(d.next, make([]byte, 32), row(32, 1), row(7, 2))}
	case 1:
		parts := 2 + d.next(3)
		p = wire.Packet{Kind: wire.Fragment, From: n, Msg: d.next(4), Part: d.next(parts - 1), Parts: parts, Mac: zeros, Body: row(1024, d.next(2))}
	case 2:
		p = wire.Packet{Kind: wire.Cookie, To: n, Mac: row(16, d.next(3))}
	case 3:
		p = wire.Packet{Kind: some(d.next, wire.Data, wire.Keep), To: n, Counter: uint64(d.next(9)), Body: row(16, 1)}
	case 4:
		d.hand(mail{from, to, row(d.next(40), d.next(20))})
		return
	}
	d.hand(d.mailOf(from, to, p))
}

// pass takes one off the way, mostly the first, and hands it on; some are lost, doubled, turned, or come elsewhere.
func (d *draft) pass() {
	d.t.Helper()
	if len(d.past) > 0 && d.next(12) == 0 {
		d.hand(some(d.next, d.past...))
		return
	}
	if len(d.way) == 0 {
		return
	}
	i := 0
	if d.next(6) == 0 {
		i = d.next(len(d.way))
	}
	m := d.take(i)
	d.past = append(d.past, m)
	switch d.next(24) {
	case 0:
		return
	case 1:
		d.way = append(d.way, m)
	case 2:
		m.b = bytes.Clone(m.b)
		m.b[d.next(len(m.b))] ^= 1 << d.next(8)
	case 3:
		m.to = d.addr()
	case 4:
		m.from = some(d.next, "a", "c", "x", "")
	}
	d.hand(m)
}

// hand hands a datagram on, and looks at what is told.
func (d *draft) hand(m mail) {
	d.t.Helper()
	end := d.ends[m.to]
	if end == nil {
		return
	}
	peers := end.x.Peers()
	v, e := end.handle(m.from, m.b, d.chance(), d.now)
	d.note("handle", e)
	d.sent(m.to, v.Outs)
	if v.Up {
		d.came["up"]++
	}
	if e != api.OK && e != api.ErrZero && end.x.Peers() != peers {
		d.t.Fatalf("error %d made a peer", int(e))
	}
	if !v.Got || !d.unique {
		return
	}
	d.came["got"]++
	text := string(v.Data)
	if !d.texts[text] || d.told[text] {
		d.t.Fatalf("told is %q, from %q: sent %v, told before %v", text, m.from, d.texts[text], d.told[text])
	}
	d.told[text] = true
}

// drawnWorld does so many things.
func drawnWorld(t testing.TB, name string, steps int, next func(n int) int, came map[string]int) {
	t.Helper()
	d := drawn(t, name, next, came)
	for range steps {
		d.step()
		if len(d.way) > 40 {
			d.way = d.way[20:]
		}
	}
}

// drawnRounds is how many worlds are drawn of a pattern: fewer, where its handshakes take long.
func drawnRounds(name string) int {
	switch name {
	case two:
		return 50
	case three:
		return 40
	case one, late, eight:
		return 10
	case "NN":
		return 20
	}
	return 4
}

// P23.1 to P23.7: drawn calls are as the chapter's words have them, and each answer comes often.
func TestDrawnWorlds(t *testing.T) {
	r := rand.New(rand.NewSource(1))
	came := map[string]int{}
	for _, name := range append(allPatterns(), one) {
		for range drawnRounds(name) {
			drawnWorld(t, name, 150, r.Intn, came)
		}
	}
	for what, least := range map[string]int{
		"open 0": 500, "open 11": 3, "open 12": 20, "open 30": 200, "open 51": 100,
		"send 0": 500, "send 14": 20, "send 50": 300, "send 52": 10, "send 53": 200,
		"ping 0": 200, "ping 50": 100, "ping 52": 5, "ping 53": 50,
		"handle 0": 2000, "handle 10": 50, "handle 11": 1, "handle 12": 10, "handle 13": 5, "handle 30": 1000, "handle 40": 100,
		"handle 41": 20, "handle 42": 50, "handle 43": 50, "handle 44": 500, "handle 50": 100, "handle 51": 100, "handle 52": 5, "handle 53": 100,
		"close 0": 50, "close 50": 20, "up": 500, "got": 150,
	} {
		if came[what] < least {
			t.Errorf("%s came %d times", what, came[what])
		}
	}
	t.Log(came)
}

// told are small numbers that stand in bytes, one behind the other; then all are 0.
func told(b []byte) func(n int) int {
	return func(n int) int {
		out := 0
		for size := n - 1; size > 0; size >>= 8 {
			out <<= 8
			if len(b) > 0 {
				out |= int(b[0])
				b = b[1:]
			}
		}
		return out % n
	}
}

// FuzzWorlds holds any world to the chapter's words.
func FuzzWorlds(f *testing.F) {
	for seed := range 8 {
		f.Add(seed, row(50*seed+40, seed))
	}
	f.Fuzz(func(t *testing.T, which int, b []byte) {
		names := append(allPatterns(), one)
		name := names[uint(which)%uint(len(names))]
		drawnWorld(t, name, 10+min(len(b), 800)/4, told(b), map[string]int{})
	})
}

// FuzzHandle holds an end, to which any datagram comes in each state, to the chapter's words.
func FuzzHandle(f *testing.F) {
	f.Add([]byte(nil), "a", uint64(0))
	f.Add(hello(f, 1), "a", uint64(5))
	f.Add(piece(f, 1, 1), "b", uint64(70))
	f.Add(cookieTo(f, 1), "b", uint64(7))
	f.Add(sealedTo(f, wire.Data, 1, 0), "a", uint64(9))
	f.Add(sealedTo(f, wire.Keep, 1, 5), "b", uint64(200))
	f.Fuzz(func(t *testing.T, b []byte, from string, later uint64) {
		for _, load := range []int{0, 5} {
			w := among(t, three, "a", "b")
			w.with("a", func(c *Config) { c.Load = load })
			comes := func() {
				_, e := w.ends["a"].handle(from, b, w.chance(), w.now)
				if e == api.OK {
					w.ends["a"].handle(from, b, w.chance(), w.now+later)
				}
				w.ends["a"].tick(w.chance(), w.now+later)
			}
			comes()
			w.ends["a"].open("b", w.chance(), w.now)
			comes()
			outs, _ := w.ends["b"].open("a", w.chance(), w.now)
			w.sent("b", outs)
			for range 6 {
				if len(w.way) > 0 {
					m := w.take(0)
					v, _ := w.ends[m.to].handle(m.from, m.b, w.chance(), w.now)
					w.sent(m.to, v.Outs)
				}
				comes()
			}
		}
	})
}
