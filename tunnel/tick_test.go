package tunnel

import (
	"bytes"
	"fmt"
	"math"
	"testing"

	"redan/api"
	"redan/curve"
	"redan/frag"
	"redan/session"
	"redan/sponge"
	"redan/wire"
)

// P23.5: a handshake's message is said again when it is time, as often as the rules say; then the peer goes.
func TestTickSaysAgain(t *testing.T) {
	for _, name := range []string{two, "NN", wide} {
		w := among(t, name, "a")
		w.open(api.OK, "a", "b")
		flight := w.way
		for _, wait := range []uint64{5, 10, 20} {
			w.now += wait - 1
			w.tick("a", 0)
			w.now++
			w.way = nil
			w.tick("a", len(flight))
			for i, m := range w.way {
				if !bytes.Equal(m.b, flight[i].b) || m.to != "b" {
					t.Errorf("%s: another datagram", name)
				}
			}
			w.tick("a", 0)
		}
		w.now += 19
		w.tick("a", 0)
		w.peers("a", 1)
		w.now++
		w.tick("a", 0)
		w.peers("a", 0)
		w.tick("a", 0)
		w.open(api.OK, "a", "b")
		w.isFlight(len(w.way)-len(flight), 2, 0, 0, zeros)
	}
}

// P23.5: who answers says its message again, too, and goes.
func TestTickOfWhoAnswers(t *testing.T) {
	w := among(t, three, "a", "b")
	w.open(api.OK, "a", "b")
	w.now += 3
	w.pass(api.OK)
	answer := w.take(0)
	w.now += 4
	w.tick("b", 0)
	w.now++
	w.tick("b", 1)
	if !bytes.Equal(w.way[0].b, answer.b) {
		t.Error("another datagram")
	}
	w.now += 10
	w.tick("b", 1)
	w.now += 20
	w.tick("b", 1)
	w.now += 20
	w.tick("b", 0)
	w.peers("b", 0)
	// It has forgotten all: what a says next is no message for it.
	w.gives(api.OK, answer)
	w.gives(api.ErrState, w.take(len(w.way)-1))
	w.ups("a", "b", true)
}

// P23.5: each message has a timer of its own.
func TestTickBehindAnAnswer(t *testing.T) {
	w := among(t, eight, "a", "b")
	w.open(api.OK, "a", "b")
	w.now += 5
	w.tick("a", 1)
	w.now += 10
	w.tick("a", 1)
	w.pass(api.OK)
	w.way = w.way[2:]
	w.pass(api.OK)
	parts := w.packet(0).Parts
	w.isFlight(0, 1, 1, 2, zeros)
	w.way = nil
	for _, wait := range []uint64{5, 10, 20} {
		w.now += wait - 1
		w.tick("a", 0)
		w.now++
		w.tick("a", parts)
	}
	w.now += 20
	w.tick("a", 0)
	w.peers("a", 0)
}

// P23.5: by other rules: never again, often, at once.
func TestTickByRules(t *testing.T) {
	for _, x := range []struct {
		rules session.Rules
		waits []uint64
	}{
		{session.Rules{Retry: 7, RetryMax: 7, Tries: 0}, []uint64{7}},
		{session.Rules{Retry: 7, RetryMax: 7, Tries: -3}, []uint64{7}},
		{session.Rules{Retry: 0, RetryMax: 0, Tries: 2}, []uint64{1, 1, 1}},
		{session.Rules{Retry: 3, RetryMax: 100, Tries: 7}, []uint64{3, 6, 12, 24, 48, 96, 100, 100}},
	} {
		w := among(t, two, "a")
		w.with("a", func(c *Config) { c.Rules = x.rules })
		w.open(api.OK, "a", "b")
		for i, wait := range x.waits {
			w.now += wait - 1
			w.tick("a", 0)
			w.now++
			count := 1
			if i == len(x.waits)-1 {
				count = 0
			}
			w.peers("a", 1)
			w.tick("a", count)
		}
		w.peers("a", 0)
	}
	w := among(t, two, "a")
	w.open(api.OK, "a", "b")
	w.now = 0
	w.tick("a", 0)
	w.now = math.MaxUint64
	w.tick("a", 1)
	w.now = 5
	w.tick("a", 0)
}

// P23.5: a handshake that is given up leaves the session that there is; its flight is gone. The session is looked at
// from the next time on.
func TestTickGivesUpBesideASession(t *testing.T) {
	w := among(t, two, "a", "b")
	w.up("a", "b")
	w.now += 60
	w.tick("a", 1)
	w.ups("a", "b", true)
	for _, wait := range []uint64{5, 10, 20} {
		w.now += wait
		w.tick("a", 1)
	}
	w.way = nil
	w.talks("a", "b")
	w.now += 20
	w.tick("a", 0)
	w.peers("a", 1)
	w.ups("a", "b", true)
	w.talks("b", "a")
	w.now++
	w.tick("a", 1)
	w.isFlight(0, 1, 0, 0, zeros)
	w.now += 100
	// The session is too old, but the handshake counts first.
	w.tick("a", 1)
	w.peers("a", 1)
	w.send(api.ErrExpired, "a", "b", "hi")
	w.through()
	w.talks("a", "b")
}

// P23.5: with a handshake that is given up the flight goes, so that the first message may begin anew.
func TestTickGivesUpTheFlight(t *testing.T) {
	w := among(t, three, "a", "b")
	w.up("a", "b")
	w.tells("a", "b", "the flight goes")
	w.open(api.OK, "a", "b")
	hello := w.take(0)
	w.gives(api.OK, hello)
	w.again(hello, true)
	for _, wait := range []uint64{5, 10, 20, 20} {
		w.now += wait
		w.ends["b"].tick(w.chance(), w.now)
	}
	w.ups("b", "a", true)
	first := w.take(0)
	w.gives(api.OK, hello)
	second := w.take(0)
	if bytes.Equal(first.b, second.b) {
		t.Error("the flight is still there")
	}
}

// P23.5: a session that is too old goes, with its peer; by its age, or by what was sent, as soon as Tick comes.
func TestTickOfTooOld(t *testing.T) {
	w := among(t, two, "a", "b")
	w.with("a", func(c *Config) { c.Rules.Rekey = 1000 })
	w.with("b", func(c *Config) { c.Rules.Rekey = 1000 })
	w.up("a", "b")
	w.now += 119
	w.tick("a", 0)
	w.tick("b", 0)
	w.ups("a", "b", true)
	w.now++
	w.tick("a", 0)
	w.peers("a", 0)
	w.ups("a", "b", false)
	if w.ends["a"].x.Hash("b") != nil {
		t.Error("Hash of who went")
	}
	w.peers("b", 1)
	w.now--
	w.tick("b", 0)
	w.peers("b", 1)

	w = among(t, two, "a", "b")
	w.with("b", func(c *Config) { c.Rules.RekeyCount = 100 })
	w.up("a", "b")
	for range 29 {
		w.ping(api.OK, "b", "a")
	}
	w.tick("b", 0)
	w.peers("b", 1)
	w.ping(api.OK, "b", "a")
	w.tick("b", 0)
	w.peers("b", 0)
}

// P23.5: that it is too old counts ahead of that it is time for other keys.
func TestTickOldAheadOfRekey(t *testing.T) {
	w := among(t, two, "a", "b")
	w.up("a", "b")
	w.now += 120
	w.tick("a", 0)
	w.tick("b", 0)
	w.peers("a", 0)
	w.peers("b", 0)
}

// P23.5: when it is time for other keys who began the session's handshake begins another one; the other side lets its
// flight go, and waits.
func TestTickRekeys(t *testing.T) {
	for _, count := range []bool{false, true} {
		w := among(t, "NN", "a", "b")
		w.open(api.OK, "a", "b")
		first := w.way[0]
		w.through()
		if count {
			for range 19 {
				w.ping(api.OK, "a", "b")
				w.take(0)
			}
		} else {
			w.now += 59
		}
		w.tick("a", 0)
		w.tick("b", 0)
		w.again(first, true)
		if count {
			w.ping(api.OK, "a", "b")
			w.pass(api.OK)
		} else {
			w.now++
		}
		hash := w.ends["a"].x.Hash("b")
		w.tick("a", 2)
		w.isFlight(0, 1, 0, 0, zeros)
		w.tick("a", 0)
		w.tick("b", 0)
		w.through()
		if bytes.Equal(w.ends["a"].x.Hash("b"), hash) || !bytes.Equal(w.ends["a"].x.Hash("b"), w.ends["b"].x.Hash("a")) {
			t.Errorf("count %v: no other Hash, or two of them", count)
		}
		w.talks("a", "b")
		w.tick("a", 0)
		w.tick("b", 0)
		w.peers("a", 1)
	}
}

// P23.5: at the side that didn't begin the flight goes when it is time for other keys, and nothing is sent.
func TestTickRekeyOfWhoAnswered(t *testing.T) {
	w := among(t, two, "a", "b")
	w.open(api.OK, "a", "b")
	first := w.way[0]
	w.through()
	w.now += 59
	w.tick("b", 0)
	hash := w.ends["b"].x.Hash("a")
	w.again(first, true)
	w.now++
	w.tick("b", 0)
	w.ups("b", "a", true)
	// Without a flight the first message begins anew.
	if v := w.gives(api.OK, first); !v.Up || bytes.Equal(w.ends["b"].x.Hash("a"), hash) {
		t.Errorf("the flight was still there: %v", v)
	}
}

// P23.5: it counts who began the handshake of the session that there is, not that of an older one, nor that of one that
// was given up.
func TestTickWhoBegan(t *testing.T) {
	w := among(t, two, "a", "b")
	w.up("a", "b")
	w.tells("a", "b", "the flight goes")
	w.up("b", "a")
	w.now += 60
	w.tick("a", 0)
	w.tick("b", 1)
	w.through()
	w.tells("b", "a", "the flight goes")
	w.open(api.OK, "a", "b")
	w.way = nil
	for _, wait := range []uint64{5, 10, 20} {
		w.now += wait
		w.tick("a", 1)
	}
	w.way = nil
	w.now += 25
	w.tick("a", 0)
	w.ups("a", "b", true)
	w.tick("a", 0)
	w.tick("b", 1)
}

// firstOf is what a first message of e alone is, of these bytes of chance.
func firstOf(t *testing.T, chance []byte) []byte {
	t.Helper()
	pub, e := curve.Public(chance)
	if e != api.OK {
		t.Fatalf("curve.Public: error %d", int(e))
	}
	return pub
}

// P23.5: of many peers what is to be sent goes by their numbers, whatever their addresses are; and so does chance.
func TestTickByNumber(t *testing.T) {
	const count = 25
	addr := func(i int) string { return fmt.Sprint("peer ", (i*7)%count) }
	b := made(t, Config{Pattern: patternOf(t, two), Peers: count, Load: count, Frags: frag.Limits{Peer: 9000, All: 9000, Age: 5}, Rules: session.Rules{Retry: 5, RetryMax: 5, Tries: 1, Rekey: 20, Expire: 40, RekeyCount: 9, ExpireCount: 9}})
	ends := map[string]*Tunnel{}
	for i := range count {
		outs, e := b.open(addr(i), []byte{byte(i)}, 0)
		if e != api.OK || len(outs) != 1 || got(t, outs[0].Bytes).From != uint32(i+1) {
			t.Fatalf("Open of %q: error %d", addr(i), int(e))
		}
		// Every third one answers.
		if i%3 == 0 {
			x, _ := New(Config{Pattern: patternOf(t, two), Peers: 1, Load: 1, Frags: frag.Limits{Peer: 9000, All: 9000}})
			v, e := x.Handle("it", outs[0].Bytes, []byte(addr(i)), 0)
			if e != api.OK {
				t.Fatalf("Handle: error %d", int(e))
			}
			b.handle(addr(i), v.Outs[0].Bytes, nil, 0)
			ends[addr(i)] = x
		}
	}
	isOf := func(outs []Out, which func(i int) bool) {
		t.Helper()
		n := 0
		for i := range count {
			if !which(i) {
				continue
			}
			if n >= len(outs) || outs[n].Addr != addr(i) || got(t, outs[n].Bytes).From != uint32(i+1) {
				t.Fatalf("datagram %d isn't the one for %q", n, addr(i))
			}
			n++
		}
		if n != len(outs) {
			t.Fatalf("%d datagrams, not %d", len(outs), n)
		}
	}
	isOf(b.tick([]byte("chance"), 4), func(int) bool { return false })
	isOf(b.tick([]byte("chance"), 5), func(i int) bool { return i%3 != 0 })
	outs := b.tick([]byte("chance"), 20)
	isOf(outs, func(i int) bool { return i%3 == 0 })
	chance := sponge.Shake256([]byte("chance"))
	for _, o := range outs {
		if p := got(t, o.Bytes); !bytes.Equal(p.Body, firstOf(t, chance.Read(32))) || p.Msg != 0 {
			t.Fatal("another message than that of the next bytes of chance")
		}
	}
	if b.x.Peers() != 9 {
		t.Errorf("%d peers", b.x.Peers())
	}
	isOf(b.tick([]byte("chance"), 25), func(i int) bool { return i%3 == 0 })
	isOf(b.tick([]byte("chance"), 30), func(int) bool { return false })
	isOf(b.tick([]byte("chance"), 39), func(i int) bool { return i%3 == 0 })
	isOf(b.tick([]byte("chance"), 44), func(i int) bool { return i%3 == 0 })
	isOf(b.tick([]byte("chance"), 49), func(int) bool { return false })
	isOf(b.tick([]byte("chance"), 49), func(int) bool { return false })
	if b.x.Peers() != 0 {
		t.Errorf("%d peers", b.x.Peers())
	}
}

// P23.5: Tick lets the buffer's old entries go, and those of the peers that go.
func TestTickAndTheBuffer(t *testing.T) {
	w := among(t, "NN", "a", "b")
	part := func(from, to string, msg int) {
		t.Helper()
		b := put(t, wire.Packet{Kind: wire.Fragment, From: 7, Msg: msg, Parts: 2, Mac: zeros, Body: row(1024, 1)})
		w.none(w.gives(api.OK, mail{from, to, b}))
	}
	keeps := func(at string, want ...string) {
		t.Helper()
		if n := w.ends[at].x.buffer.Count(); n != len(want) {
			t.Fatalf("%d entries, not %v", n, want)
		}
		for _, addr := range want {
			if w.ends[at].x.buffer.Held(addr) == 0 {
				t.Fatalf("nothing of %q", addr)
			}
		}
	}
	part("p", "a", 0)
	w.now += 30
	w.tick("a", 0)
	keeps("a", "p")
	w.now++
	w.tick("a", 0)
	keeps("a")

	// With who is given up its pieces go, with no other's.
	w.open(api.OK, "a", "b")
	for _, wait := range []uint64{5, 10, 20} {
		w.now += wait
		w.tick("a", 2)
	}
	w.way = nil
	part("b", "a", 1)
	part("p", "a", 0)
	keeps("a", "b", "p")
	w.now += 20
	w.tick("a", 0)
	w.peers("a", 0)
	keeps("a", "p")

	// Where there is a session they stay.
	w = among(t, "NN", "a", "b")
	w.up("a", "b")
	w.open(api.OK, "a", "b")
	for _, wait := range []uint64{5, 10, 20} {
		w.now += wait
		w.tick("a", 2)
	}
	part("b", "a", 1)
	w.now += 20
	w.tick("a", 0)
	keeps("a", "b")
	w.ups("a", "b", true)
}

// P23.5: with a session that is too old its peer's pieces go.
func TestTickDropsPiecesOfTooOld(t *testing.T) {
	w := among(t, "NN", "a", "b")
	w.up("a", "b")
	w.tells("a", "b", "the flight goes")
	w.now += 110
	b := put(t, wire.Packet{Kind: wire.Fragment, From: 7, Msg: 0, Parts: 2, Mac: zeros, Body: row(1024, 1)})
	w.gives(api.OK, mail{"a", "b", b})
	w.gives(api.OK, mail{"p", "b", b})
	w.now += 10
	w.tick("b", 0)
	w.peers("b", 0)
	if x := w.ends["b"].x.buffer; x.Held("a") != 0 || x.Held("p") != 1024 {
		t.Errorf("kept are %d and %d bytes", x.Held("a"), x.Held("p"))
	}
}

// P23.5: Close: ErrPeer, if there is no peer; else it goes, whatever it has, with its pieces.
func TestClose(t *testing.T) {
	w := among(t, "NN", "a", "b")
	shut := func(want api.Errno, at, addr string) {
		t.Helper()
		w.is("Close", w.ends[at].close(addr), want)
		w.ups(at, addr, false)
	}
	shut(api.ErrPeer, "a", "b")
	w.open(api.OK, "a", "b")
	shut(api.ErrPeer, "a", "")
	shut(api.ErrPeer, "a", "a")
	// b has pieces, but isn't a peer: they stay.
	w.gives(api.OK, w.way[0])
	shut(api.ErrPeer, "b", "a")
	if n := w.ends["b"].x.buffer.Held("a"); n != 1024 {
		t.Errorf("%d bytes are kept", n)
	}
	w.through()
	w.talks("a", "b")
	b := put(t, wire.Packet{Kind: wire.Fragment, From: 7, Msg: 0, Parts: 2, Mac: zeros, Body: row(1024, 1)})
	w.gives(api.OK, mail{"a", "b", b})
	w.gives(api.OK, mail{"p", "b", b})
	shut(api.OK, "b", "a")
	if x := w.ends["b"].x.buffer; x.Held("a") != 0 || x.Held("p") != 1024 {
		t.Errorf("kept are %d and %d bytes", x.Held("a"), x.Held("p"))
	}
	if w.ends["b"].x.Hash("a") != nil {
		t.Error("Hash of who went")
	}
	w.peers("b", 0)
	shut(api.ErrPeer, "b", "a")
	w.send(api.OK, "a", "b", "to who went")
	w.pass(api.ErrPeer)
	w.send(api.ErrPeer, "b", "a", "hi")
	shut(api.OK, "a", "b")
	w.open(api.OK, "a", "b")
	shut(api.OK, "a", "b")
	w.pass(api.OK)
	w.way = nil
	w.now += 31
	w.open(api.OK, "a", "b")
	w.through()
	w.talks("a", "b")
}
