package tunnel

import (
	"bytes"
	"testing"

	"redan/api"
	"redan/cookie"
	"redan/wire"
)

// zeros is the cookie of who has none.
var zeros = make([]byte, 16)

// isFlight looks that what an end sent, from a place on the way on, is a message's flight with these numbers, whole
// and in order, each fragment with its code by a cookie.
func (w *world) isFlight(at int, from, to uint32, msg int, by []byte) {
	w.t.Helper()
	parts := w.packet(at).Parts
	if len(w.way) < at+parts {
		w.t.Fatalf("of %d fragments %d are on the way", parts, len(w.way)-at)
	}
	for i := range parts {
		p := w.packet(at + i)
		if p.Kind != wire.Fragment || p.From != from || p.To != to || p.Msg != msg || p.Part != i || p.Parts != parts {
			w.t.Fatalf("fragment %d: %+v, not From %d, To %d, Msg %d", i, p, from, to, msg)
		}
		if !bytes.Equal(p.Mac, cookie.Sign(by, wire.Signed(p))) {
			w.t.Fatalf("fragment %d of message %d: another Mac", i, msg)
		}
	}
}

// P23.2: the first message goes over in pieces, with our number, none of the other side's, and a cookie of bytes 0.
func TestOpenSendsTheFirstMessage(t *testing.T) {
	sizes := map[string]int{"NN": 32 + 1184, "XX": 32 + 1184, "NK": 1088 + 32 + 1184 + 16, "IK": 1088 + 32 + 1184 + 1216 + 16 + 16, one: 32, wide: 32 + 1184 + 1216}
	for name, size := range sizes {
		w := among(t, name, "a")
		for i, addr := range []string{"b", "c", "d"} {
			w.way = nil
			w.open(api.OK, "a", addr)
			w.isFlight(0, uint32(i+1), 0, 0, zeros)
			bytes := 0
			for k := range w.way {
				bytes += len(w.packet(k).Body)
				if w.way[k].to != addr {
					t.Errorf("%s: a fragment for %q, not for %q", name, w.way[k].to, addr)
				}
			}
			if want := (size + 1023) / 1024; bytes != size || len(w.way) != want {
				t.Errorf("%s: %d bytes in %d fragments", name, bytes, len(w.way))
			}
			w.peers("a", i+1)
			w.ups("a", addr, name == one)
		}
	}
}

// P23.2: the chance of a call is all that tells its handshake's keys.
func TestOpenDrawsFromChance(t *testing.T) {
	first := func(chance string) []byte {
		b := made(t, config(t, "a", two))
		outs, _ := b.open("b", []byte(chance), 3)
		return outs[0].Bytes
	}
	if !bytes.Equal(first("one"), first("one")) {
		t.Error("one chance, two keys")
	}
	if bytes.Equal(first("one"), first("two")) {
		t.Error("two chances, one key")
	}
	first("")
}

// P23.2: ErrState, if the peer has a handshake, whoever began it; it is told ahead of hand.New's error.
func TestOpenWithAHandshake(t *testing.T) {
	w := among(t, "XX", "a", "b")
	w.open(api.OK, "a", "b")
	w.open(api.ErrState, "a", "b")
	w.passes(2)
	w.open(api.ErrState, "b", "a")
	w.through()
	w.talks("a", "b")
	w.open(api.OK, "b", "a")
	w.open(api.ErrState, "b", "a")
	w.ups("b", "a", true)

	// Of this one the responder need not know the initiator, but the initiator must know the responder.
	w = among(t, "Ask:\n<- s\n...\n-> e\n<- e\n-> es\n", "a", "b")
	w.gives(api.OK, mail{"nobody", "b", hello(t, 7)})
	w.open(api.ErrState, "b", "nobody")
	if e := w.ends["b"].close("nobody"); e != api.OK {
		t.Fatalf("Close: error %d", int(e))
	}
	w.open(api.ErrKey, "b", "nobody")
}

// P23.2: ErrFull, if there are as many peers as may be; one fewer is none; a peer with a session needs no room.
func TestOpenWhenFull(t *testing.T) {
	for peers := range 4 {
		w := among(t, two, "a", "b")
		w.with("a", func(c *Config) { c.Peers, c.Load = peers, 9 })
		for i, addr := range []string{"b", "c", "d", "e"} {
			want := api.OK
			if i >= peers {
				want = api.ErrFull
			}
			w.open(want, "a", addr)
			w.peers("a", min(i+1, peers))
		}
		if peers == 0 {
			continue
		}
		w.gives(api.OK, w.take(0))
		w.gives(api.OK, w.take(len(w.way)-1))
		w.ups("a", "b", true)
		w.open(api.OK, "a", "b")
		w.open(api.ErrFull, "a", "e")
		w.open(api.ErrState, "a", "b")
		if e := w.ends["a"].close("b"); e != api.OK {
			t.Fatalf("Close: error %d", int(e))
		}
		w.open(api.OK, "a", "e")
		w.open(api.ErrFull, "a", "b")
	}
}

// P23.2: ErrFull is told ahead of hand.New's error.
func TestOpenWhenFullOfWhoIsNotKnown(t *testing.T) {
	w := among(t, "NK", "a")
	w.with("a", func(c *Config) { c.Peers = 1 })
	w.open(api.ErrKey, "a", "nobody")
	w.open(api.OK, "a", "b")
	w.open(api.ErrFull, "a", "nobody")
}

// P23.2: hand.New's error, of keys that may not be, or that there aren't.
func TestOpenWithKeysThatMayNotBe(t *testing.T) {
	type fault struct {
		name   string
		change func(c *Config)
	}
	spoiled := func(b []byte) []byte { b = bytes.Clone(b); b[0] ^= 1; return b }
	own := []fault{
		{"no own pair", func(c *Config) { c.Own = api.Pair{} }},
		{"another Pub", func(c *Config) { c.Own.Pub = spoiled(c.Own.Pub) }},
		{"another Ek", func(c *Config) { c.Own.Ek = spoiled(c.Own.Ek) }},
		{"a short Priv", func(c *Config) { c.Own.Priv = c.Own.Priv[:31] }},
	}
	other := []fault{
		{"nobody known", func(c *Config) { c.Known = nil }},
		{"b not known", func(c *Config) { c.Known = c.Known[1:] }},
		{"a bad Ek", func(c *Config) { c.Known[0].Keys.Ek = bytes.Repeat([]byte{255}, 1184) }},
		{"a short Pub", func(c *Config) { c.Known[0].Keys.Pub = c.Known[0].Keys.Pub[:31] }},
		{"a bad one ahead of the right one", func(c *Config) { c.Known = append([]Peer{{Addr: "b"}}, c.Known...) }},
	}
	psk := []fault{
		{"no psk", func(c *Config) { c.Psk = nil }},
		{"a short psk", func(c *Config) { c.Psk = c.Psk[:31] }},
		{"a long psk", func(c *Config) { c.Psk = row(33, 1) }},
	}
	asked := map[string][][]fault{"IK": {own, other}, "KK": {own, other}, "NK": {other}, "NN": nil, "NNpsk": {psk}, "XX": {own}, three: {psk}}
	for name, lists := range asked {
		for k, list := range [][]fault{own, other, psk} {
			want := api.OK
			for _, l := range lists {
				if &l[0] == &list[0] {
					want = api.ErrKey
				}
			}
			for _, f := range list {
				w := among(t, name, "a")
				w.with("a", f.change)
				w.open(want, "a", "b")
				if want != api.OK && (w.ends["a"].x.Peers() != 0 || len(w.way) > 0) {
					t.Errorf("%s, %d, %s: a peer was made", name, k, f.name)
				}
			}
		}
	}
}

// P23.2: Write's error: a secret of noughts. Nothing changes, no number is used up.
func TestOpenWithASecretOfNoughts(t *testing.T) {
	for _, name := range []string{"NK", "IK", "KK"} {
		w := among(t, name, "a")
		w.with("a", func(c *Config) {
			c.Known = []Peer{{"b", api.Pair{Pub: make([]byte, 32), Ek: c.Known[0].Keys.Ek}}, c.Known[1]}
		})
		w.open(api.ErrZero, "a", "b")
		w.peers("a", 0)
		w.open(api.OK, "a", "c")
		w.isFlight(0, 1, 0, 0, zeros)
	}
}

// P23.2: the keys of an address are those of the first one of Known with it.
func TestFirstKnownCounts(t *testing.T) {
	w := among(t, "NK", "a", "b")
	w.with("a", func(c *Config) {
		right, wrong := publicOf(pairs()["b"]), publicOf(pairs()["c"])
		c.Known = []Peer{{"c", wrong}, {"b", right}, {"b", wrong}, {"b", api.Pair{}}}
	})
	w.up("a", "b")
	w.talks("a", "b")
	w.with("a", func(c *Config) { c.Known = []Peer{{"b", publicOf(pairs()["c"])}, {"b", publicOf(pairs()["b"])}} })
	w.open(api.OK, "a", "b")
	w.passes(2)
	// It goes over, but b can't open it.
	w.pass(api.ErrAuth)
}

// P23.2: peers that are made are numbered from 1 on, each one the next number, whatever was refused or went.
func TestNumbers(t *testing.T) {
	w := among(t, two, "a", "b")
	number := func(want uint32) {
		t.Helper()
		if p := w.packet(0); p.From != want {
			t.Fatalf("number %d, not %d", p.From, want)
		}
		w.way = nil
	}
	w.open(api.OK, "a", "b")
	number(1)
	w.open(api.ErrState, "a", "b")
	w.open(api.OK, "a", "c")
	number(2)
	w.gives(api.OK, mail{"x", "a", hello(t, 9)})
	number(3)
	w.open(api.ErrFull, "a", "d")
	w.gives(api.ErrFull, mail{"y", "a", hello(t, 9)})
	w.ends["a"].close("c")
	w.open(api.OK, "a", "c")
	number(4)
	w.ends["a"].close("x")
	w.gives(api.OK, mail{"x", "a", hello(t, 9)})
	number(5)
	// A peer with a session keeps its number, whoever begins anew.
	w.open(api.OK, "a", "x")
	number(5)
	w.ends["a"].close("b")
	w.gives(api.OK, mail{"y", "a", hello(t, 9)})
	number(6)
}

// P23.2, P23.4: a peer with a session keeps its number, whoever begins anew.
func TestNumberStays(t *testing.T) {
	for _, name := range []string{two, "XX"} {
		w := among(t, name, "a", "b")
		w.open(api.OK, "a", "c")
		w.way = nil
		w.up("b", "a")
		for range 2 {
			w.tells("b", "a", "the flight goes")
			w.open(api.OK, "b", "a")
			w.isFlight(0, 1, 0, 0, zeros)
			w.passes(w.packet(0).Parts)
			w.isFlight(0, 2, 1, 1, zeros)
			w.through()
			w.tells("b", "a", "the flight goes")
			w.open(api.OK, "a", "b")
			w.isFlight(0, 2, 0, 0, zeros)
			w.passes(w.packet(0).Parts)
			w.isFlight(0, 1, 2, 1, zeros)
			w.through()
		}
		w.open(api.OK, "a", "d")
		w.isFlight(0, 3, 0, 0, zeros)
	}
}

// P23.2: of a peer with a session another handshake begins; the session goes on till it is over.
func TestOpenWithASession(t *testing.T) {
	for _, name := range []string{two, three, "NN", "XX"} {
		w := among(t, name, "a", "b")
		w.open(api.OK, "b", "c")
		w.way = nil
		w.up("a", "b")
		w.talks("a", "b")
		hash := w.ends["a"].x.Hash("b")
		w.open(api.OK, "a", "b")
		w.isFlight(0, 1, 0, 0, zeros)
		w.ups("a", "b", true)
		if !bytes.Equal(w.ends["a"].x.Hash("b"), hash) {
			t.Error("another Hash already")
		}
		opened := w.way
		w.way = nil
		w.tells("a", "b", "still")
		w.tells("b", "a", "still")
		w.way = opened
		w.through()
		if bytes.Equal(w.ends["a"].x.Hash("b"), hash) || !bytes.Equal(w.ends["a"].x.Hash("b"), w.ends["b"].x.Hash("a")) {
			t.Error("no other Hash, or two of them")
		}
		w.talks("b", "a")
		w.peers("a", 1)
		w.peers("b", 2)
	}
}

// P23.2: what a handshake had ahead of it is gone with Open: the cookie is 16 bytes 0 again, the other side's number 0.
func TestOpenBeginsFromNothing(t *testing.T) {
	w := among(t, two, "a", "b")
	w.open(api.OK, "a", "b")
	mac := row(16, 5)
	w.gives(api.OK, w.mailOf("b", "a", wire.Packet{Kind: wire.Cookie, To: 1, Mac: mac}))
	w.isFlight(1, 1, 0, 0, mac)
	w.take(0)
	w.through()
	w.open(api.OK, "a", "b")
	w.isFlight(0, 1, 0, 0, zeros)
	// Nothing came: a cookie may come again.
	w.gives(api.OK, w.mailOf("b", "a", wire.Packet{Kind: wire.Cookie, To: 1, Mac: mac}))
	w.isFlight(1, 1, 0, 0, mac)
}

// P23.2: of a pattern with one message who opens has a session at once, with no number of the other side's.
func TestOpenOfOneMessage(t *testing.T) {
	w := among(t, one, "a", "b")
	w.open(api.OK, "a", "b")
	w.ups("a", "b", true)
	w.isFlight(0, 1, 0, 0, zeros)
	if v := w.pass(api.OK); !v.Up || len(v.Outs) > 0 {
		t.Errorf("Up %v, %d datagrams", v.Up, len(v.Outs))
	}
	if !bytes.Equal(w.ends["a"].x.Hash("b"), w.ends["b"].x.Hash("a")) {
		t.Error("two sums")
	}
	w.tells("b", "a", "back")
	w.send(api.OK, "a", "b", "forth")
	if p := w.packet(0); p.To != 0 {
		t.Errorf("To %d", p.To)
	}
	w.pass(api.ErrClosed)
	w.open(api.OK, "a", "b")
	w.pass(api.OK)
}
