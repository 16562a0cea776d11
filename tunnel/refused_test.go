package tunnel

import (
	"bytes"
	"testing"

	"redan/api"
	"redan/frag"
	"redan/hand"
	"redan/wire"
)

// said hands the fragments of a message on, all but the last one of which are taken; and looks for the last one's error.
func (w *world) said(want api.Errno, from, to string, number uint32, msg int, message []byte) Event {
	w.t.Helper()
	all := pieces(w.t, number, 0, msg, message)
	for _, b := range all[:len(all)-1] {
		w.none(w.gives(api.OK, mail{from, to, b}))
	}
	return w.gives(want, mail{from, to, all[len(all)-1]})
}

// P23.4: frag's Add's errors: pieces that don't fit, and no room. The handshake goes on.
func TestFragmentsThatDontFit(t *testing.T) {
	w := among(t, "NN", "a", "b")
	w.open(api.OK, "a", "b")
	first, second := w.take(0), w.take(0)
	w.gives(api.OK, first)
	w.gives(api.OK, first)
	other := func(change func(p *wire.Packet)) mail {
		return mail{first.from, first.to, changed(t, first.b, change)}
	}
	w.none(w.gives(api.ErrFrag, other(func(p *wire.Packet) { p.Parts = 3 })))
	w.none(w.gives(api.ErrFrag, other(func(p *wire.Packet) { p.Body[5] ^= 1 })))
	w.none(w.gives(api.ErrFrag, other(func(p *wire.Packet) { p.Part, p.Parts = 2, 3 })))
	w.peers("b", 0)
	w.gives(api.OK, second)
	w.through()
	w.talks("a", "b")

	w = among(t, "NN", "a", "b")
	w.with("b", func(c *Config) { c.Frags = frag.Limits{Peer: 1024, All: 2048, Age: 5} })
	w.open(api.OK, "a", "b")
	w.gives(api.OK, w.take(0))
	w.none(w.gives(api.ErrRoom, w.way[0]))
	w.gives(api.OK, mail{"p", "b", first.b})
	w.none(w.gives(api.ErrRoom, mail{"q", "b", first.b}))
	w.none(w.gives(api.ErrRoom, mail{"q", "b", second.b}))
	w.now += 5
	w.none(w.gives(api.ErrRoom, mail{"q", "b", first.b}))
	w.now++
	w.gives(api.OK, mail{"q", "b", first.b})
	w.peers("b", 0)
	if n := w.ends["b"].x.buffer.Count(); n != 1 {
		t.Errorf("%d entries", n)
	}

	w = among(t, two, "a", "b")
	w.with("b", func(c *Config) { c.Frags = frag.Limits{Peer: -1, All: -1} })
	w.open(api.OK, "a", "b")
	w.none(w.pass(api.ErrRoom))
}

// P23.4: the pieces of an old message of ours are in the way of another one's, till they go.
func TestPiecesOfAnotherHandshake(t *testing.T) {
	w := among(t, "NN", "a", "b")
	w.open(api.OK, "a", "b")
	w.gives(api.OK, w.take(0))
	w.way = nil
	w.ends["a"].close("b")
	w.open(api.OK, "a", "b")
	w.none(w.gives(api.ErrFrag, w.way[0]))
	w.now += 30
	w.none(w.gives(api.ErrFrag, w.way[0]))
	w.now++
	w.through()
	w.talks("a", "b")
}

// P23.4: hand.New's error, once the message is whole: of who isn't known, or of own keys that may not be. No peer is made.
func TestWhoMayNotBegin(t *testing.T) {
	w := among(t, "KK", "a", "b")
	w.open(api.OK, "a", "b")
	all := w.way
	w.way = nil
	for i, m := range all {
		want := api.OK
		if i == len(all)-1 {
			want = api.ErrKey
		}
		w.none(w.gives(want, mail{"nobody", "b", m.b}))
	}
	w.peers("b", 0)
	// Of c the keys are known, but it isn't c who said this.
	for i, m := range all {
		want := api.OK
		if i == len(all)-1 {
			want = api.ErrAuth
		}
		w.none(w.gives(want, mail{"c", "b", m.b}))
	}
	w.peers("b", 0)
	w.open(api.OK, "b", "d")
	w.isFlight(0, 1, 0, 0, zeros)
	w.way = all
	w.through()
	w.talks("a", "b")
	w.with("b", func(c *Config) { c.Own.Dk = nil })
	w.ends["a"].close("b")
	w.open(api.OK, "a", "b")
	w.passes(len(w.way) - 1)
	w.pass(api.ErrKey)
	w.peers("b", 0)
}

// P23.4: Read's error, of who would begin: nothing changes, no peer is made, no number used up; the pieces have gone.
func TestFirstMessageThatCantBeRead(t *testing.T) {
	w := among(t, "NN", "a", "b")
	w.open(api.OK, "a", "b")
	first := w.way
	w.way = nil
	var good []byte
	for _, m := range first {
		good = append(good, got(t, m.b).Body...)
	}
	bad := bytes.Clone(good)
	copy(bad[32:], bytes.Repeat([]byte{255}, 1184))
	for _, x := range []struct {
		want    api.Errno
		message []byte
	}{{api.ErrShort, good[:1215]}, {api.ErrShort, good[:1]}, {api.ErrKey, bad}} {
		w.none(w.said(x.want, "a", "b", 1, 0, x.message))
		w.peers("b", 0)
		if n := w.ends["b"].x.buffer.Count(); n != 0 {
			t.Errorf("%d entries", n)
		}
	}
	w.way = first
	w.passes(2)
	w.isFlight(0, 1, 1, 1, zeros)
	w.through()
	w.talks("a", "b")
	// Of a peer with a session, likewise: that stays, and so does who began it, and the number.
	hash := w.ends["b"].x.Hash("a")
	w.tells("a", "b", "the flight goes")
	w.none(w.said(api.ErrKey, "a", "b", 99, 0, bad))
	if !bytes.Equal(w.ends["b"].x.Hash("a"), hash) {
		t.Error("another Hash")
	}
	w.talks("a", "b")
}

// P23.4: Read's error, of the next message of a handshake: it goes on, and takes the right one.
func TestNextMessageThatCantBeRead(t *testing.T) {
	w := among(t, "NN", "a", "b")
	w.open(api.OK, "a", "b")
	w.passes(2)
	var good []byte
	for i := range w.way {
		good = append(good, got(t, w.way[i].b).Body...)
	}
	bad := bytes.Clone(good)
	bad[len(bad)-1] ^= 1
	noughts := bytes.Clone(good)
	copy(noughts[1088:], make([]byte, 32))
	for _, x := range []struct {
		want    api.Errno
		message []byte
	}{{api.ErrShort, good[:1119]}, {api.ErrShort, good[:1135]}, {api.ErrAuth, bad}, {api.ErrZero, noughts}, {api.ErrAuth, append(bytes.Clone(good), 0)}} {
		w.none(w.said(x.want, "b", "a", 50, 1, x.message))
		w.ups("a", "b", false)
	}
	// Nothing came: a cookie may still come; and the timer goes on.
	w.gives(api.OK, mail{"b", "a", cookieTo(t, 1)})
	w.way = w.way[:2]
	w.now += 5
	w.tick("a", 2)
	w.way = w.way[:2]
	w.through()
	w.talks("a", "b")
}

// P23.4: Write's error of who answers: a peer is made, with a handshake, whose message was read; nothing is said, and
// nothing ever will be.
func TestAnswerOfNoughts(t *testing.T) {
	w := among(t, three, "a", "b")
	noughts := make([]byte, 32)
	w.none(w.said(api.ErrZero, "p", "b", 40, 0, noughts))
	w.peers("b", 1)
	w.ups("b", "p", false)
	w.none(w.said(api.OK, "p", "b", 40, 0, noughts))
	w.none(w.said(api.OK, "p", "b", 41, 0, row(32, 5)))
	w.gives(api.ErrState, mail{"p", "b", piece(t, 40, 1)})
	w.gives(api.ErrState, mail{"p", "b", piece(t, 40, 2)})
	part := changed(t, piece(t, 40, 1), func(p *wire.Packet) { p.Parts, p.Body = 2, row(1024, 1) })
	w.gives(api.ErrState, mail{"p", "b", part})
	w.gives(api.ErrState, mail{"p", "b", cookieTo(t, 1)})
	w.gives(api.ErrClosed, mail{"p", "b", sealedTo(t, 3, 1, 0)})
	w.send(api.ErrClosed, "b", "p", "hi")
	w.open(api.ErrState, "b", "p")
	for _, wait := range []uint64{5, 10, 20, 20, 1 << 40} {
		w.now += wait
		w.tick("b", 0)
		w.peers("b", 1)
	}
	// It counts as a handshake.
	w.none(w.said(api.ErrZero, "q", "b", 40, 0, noughts))
	w.none(w.said(api.ErrZero, "r", "b", 40, 0, noughts))
	w.asks(mail{"s", "b", hello(t, 5)}, 5, w.now/20)
	w.ends["b"].close("p")
	w.peers("b", 2)
	w.way = nil
	w.gives(api.OK, mail{"s", "b", hello(t, 5)})
	w.isFlight(0, 4, 5, 1, zeros)
}

// P23.4: Write's error of a peer with a session: that goes on.
func TestAnswerOfNoughtsBehindASession(t *testing.T) {
	w := among(t, three, "a", "b")
	w.up("a", "b")
	w.tells("a", "b", "the flight goes")
	w.said(api.ErrZero, "a", "b", 40, 0, make([]byte, 32))
	w.talks("a", "b")
	w.open(api.ErrState, "b", "a")
	// There is no timer, not that of the handshake ahead either: nothing ever comes of this one.
	for range 6 {
		w.now += 1000
		w.tick("b", 0)
		w.peers("b", 1)
		w.ups("b", "a", true)
		w.open(api.ErrState, "b", "a")
	}
	w.send(api.ErrExpired, "b", "a", "hi")
}

// P23.4: Write's error behind an answer that was read: what was read stays read; the flight and the timer are those of
// the message ahead.
func TestThirdMessageOfNoughts(t *testing.T) {
	w := among(t, late, "a", "b")
	w.open(api.OK, "a", "b")
	w.gets(api.OK, "b", "a", 1, row(16, 1))
	w.now += 2
	w.none(w.said(api.ErrZero, "b", "a", 60, 1, make([]byte, 32)))
	w.ups("a", "b", false)
	w.none(w.said(api.OK, "b", "a", 61, 1, row(32, 1)))
	w.gives(api.ErrState, mail{"b", "a", cookieTo(t, 1)})
	w.gives(api.ErrState, mail{"b", "a", piece(t, 1, 0)})
	w.gives(api.ErrState, mail{"b", "a", piece(t, 1, 2)})
	w.open(api.ErrState, "a", "b")
	w.now += 2
	w.tick("a", 0)
	for _, wait := range []uint64{1, 10, 20} {
		w.way = nil
		w.now += wait
		w.tick("a", 1)
		w.isFlight(0, 1, 0, 0, row(16, 1))
	}
	w.now += 20
	w.tick("a", 0)
	w.peers("a", 0)
}

// P23.6: errors, one behind the other, in the midst of all handshakes: they go on as if nothing had come.
func TestErrorsChangeNothing(t *testing.T) {
	for _, name := range allPatterns() {
		w := among(t, name, "a", "b")
		w.with("a", func(c *Config) { c.Peers = 1 })
		w.with("b", func(c *Config) { c.Peers = 1 })
		wrong := func() {
			way := w.way
			w.way = nil
			for _, ends := range [][2]string{{"a", "b"}, {"b", "a"}} {
				x, y := ends[0], ends[1]
				p := w.ends[x].p.of(y)
				if p == nil {
					w.send(api.ErrPeer, x, y, "hi")
					continue
				}
				if p.shake != nil {
					w.open(api.ErrState, x, y)
					w.gives(api.ErrState, mail{y, x, piece(t, 9, (p.m+1)%8)})
				}
				if p.session == nil {
					w.send(api.ErrClosed, x, y, "hi")
				} else {
					w.send(api.ErrLong, x, y, string(row(1172, 1)))
					w.gives(api.ErrAuth, mail{y, x, sealedTo(t, 3, p.ours, 5)})
					w.gives(api.ErrAuth, mail{y, x, sealedTo(t, 4, p.ours, 1<<63)})
				}
				w.open(api.ErrFull, x, "c")
				w.gives(api.ErrFull, mail{"c", x, hello(t, 1)})
				w.gives(api.ErrForm, mail{y, x, row(30, 5)})
				w.gives(api.ErrClosed, mail{y, x, sealedTo(t, 3, 2, 0)})
				w.gives(api.ErrState, mail{y, x, cookieTo(t, 2)})
				if e := w.ends[x].close("c"); e != api.ErrPeer {
					t.Fatalf("Close: error %d", int(e))
				}
			}
			w.way = way
		}
		wrong()
		w.open(api.OK, "a", "b")
		for len(w.way) > 0 {
			wrong()
			w.pass(api.OK)
		}
		wrong()
		w.talks("a", "b")
	}
}

// P23.1: New holds no keys against the pattern: it is Open and Handle that refuse.
func TestKeysAreAskedForLate(t *testing.T) {
	w := among(t, "IK", "a", "b")
	for _, addr := range []string{"a", "b"} {
		w.with(addr, func(c *Config) { c.Own, c.Known, c.Psk = api.Pair{}, nil, nil })
	}
	if _, e := hand.New(w.ends["a"].p.c.Pattern, true, nil, api.Pair{}, api.Pair{}, nil); e != api.ErrKey {
		t.Fatalf("hand.New: error %d", int(e))
	}
	w.open(api.ErrKey, "a", "b")
	w.none(w.said(api.ErrKey, "a", "b", 1, 0, row(2000, 1)))
	w.peers("a", 0)
	w.peers("b", 0)
}
