package tunnel

import (
	"bytes"
	"testing"

	"redan/api"
	"redan/wire"
)

// P23.4: wire's Get's error, of whatever is no packet.
func TestHandleOfNoPacket(t *testing.T) {
	w := among(t, two, "a", "b")
	w.up("a", "b")
	w.send(api.OK, "a", "b", "hi")
	good := w.take(0)
	cases := map[api.Errno][][]byte{
		api.ErrShort: {nil, {}},
		api.ErrLong:  {row(1201, 1), append(bytes.Clone(good.b), make([]byte, 1300)...)},
		api.ErrForm:  {{0}, {1}, {2}, {3}, {5}, row(1200, 3), make([]byte, 1200), good.b[:20], append([]byte{9}, good.b[1:]...), hello(t, 1)[:27], append(cookieTo(t, 1), 0)},
	}
	for want, list := range cases {
		for _, b := range list {
			for _, from := range []string{"a", "", "nobody"} {
				w.none(w.gives(want, mail{from, "b", b}))
			}
		}
	}
	if v := w.gives(api.OK, good); string(v.Data) != "hi" {
		t.Error(v)
	}
}

// P23.4: Data and Keep: ErrPeer, if there is no peer; ErrClosed, if it has no session, or another number.
func TestSealedWithoutASession(t *testing.T) {
	w := among(t, "XX", "a", "b")
	w.open(api.OK, "b", "d")
	w.way = nil
	for _, kind := range []int{wire.Data, wire.Keep} {
		for to := range uint32(4) {
			w.gives(api.ErrPeer, mail{"a", "b", sealedTo(t, kind, to, 0)})
			w.gives(api.ErrClosed, mail{"d", "b", sealedTo(t, kind, to, 0)})
		}
	}
	w.open(api.OK, "a", "b")
	w.passes(2)
	for _, kind := range []int{wire.Data, wire.Keep} {
		for to := range uint32(4) {
			w.gives(api.ErrClosed, mail{"a", "b", sealedTo(t, kind, to, 0)})
			w.gives(api.ErrClosed, mail{"b", "a", sealedTo(t, kind, to, 0)})
		}
	}
	w.through()
	for _, kind := range []int{wire.Data, wire.Keep} {
		for to := range uint32(4) {
			want := api.ErrClosed
			if to == 2 {
				want = api.ErrAuth
			}
			w.none(w.gives(want, mail{"a", "b", sealedTo(t, kind, to, 0)}))
			w.gives(api.ErrPeer, mail{"", "b", sealedTo(t, kind, to, 0)})
		}
	}
	w.talks("a", "b")
}

// P23.4: the session's Open's errors: twice, forged, too old, too far behind; the true one of its number still comes.
func TestSealedTwiceForgedLate(t *testing.T) {
	for _, keep := range []bool{false, true} {
		w := among(t, two, "a", "b")
		w.with("a", func(c *Config) { c.Rules.ExpireCount = 1000 })
		w.up("a", "b")
		send := func(data string) mail {
			if keep {
				w.ping(api.OK, "a", "b")
			} else {
				w.send(api.OK, "a", "b", data)
			}
			return w.take(0)
		}
		first, second := send("first"), send("second")
		for bit := range 8 * len(second.b) {
			m := mail{second.from, second.to, bytes.Clone(second.b)}
			m.b[bit/8] ^= 1 << (bit % 8)
			want := api.ErrAuth
			switch {
			case bit < 8:
				want = api.ErrForm
			case bit < 40:
				want = api.ErrClosed
			}
			w.none(w.gives(want, m))
		}
		w.gives(api.OK, second)
		w.gives(api.ErrReplay, second)
		w.gives(api.OK, first)
		w.gives(api.ErrReplay, first)
		w.gives(api.ErrReplay, second)
		late, least := send("late"), send("least")
		for range 126 {
			send("lost")
		}
		w.gives(api.OK, send("130"))
		w.gives(api.ErrReplay, late)
		w.gives(api.OK, least)
		w.gives(api.OK, send("131"))
		old := send("old")
		w.now += 119
		w.gives(api.OK, old)
		old = send("older")
		w.now++
		w.gives(api.ErrExpired, old)
		w.now--
		w.gives(api.OK, old)
	}
}

// P23.4: a Data and a Keep of nothing are sealed alike: of Data there are Data and Got, of Keep nothing.
func TestDataAndKeep(t *testing.T) {
	w := among(t, two, "a", "b")
	w.up("a", "b")
	w.send(api.OK, "a", "b", "")
	w.ping(api.OK, "a", "b")
	w.send(api.OK, "a", "b", "")
	w.ping(api.OK, "a", "b")
	empty := func(v Event, got bool) {
		t.Helper()
		if len(v.Data) > 0 || v.Got != got || v.Up || len(v.Outs) > 0 {
			t.Errorf("told is %v", v)
		}
	}
	empty(w.pass(api.OK), true)
	empty(w.pass(api.OK), false)
	w.way[0].b[0] = 4
	empty(w.pass(api.OK), false)
	w.way[0].b[0] = 3
	empty(w.pass(api.OK), true)
}

// again looks whether an end still has its last message for who says theirs again.
func (w *world) again(m mail, want bool) {
	w.t.Helper()
	was := len(w.way)
	v, e := w.ends[m.to].handle(m.from, m.b, w.chance(), w.now)
	if e != api.OK || len(v.Outs) > 0 != want || v.Up {
		w.t.Fatalf("said again: %d datagrams, Up %v, error %d", len(v.Outs), v.Up, int(e))
	}
	w.way = w.way[:was]
}

// P23.4: the flight is gone with Data or Keep that is opened, and with nothing else that comes.
func TestFlightGoesWithData(t *testing.T) {
	for _, keep := range []bool{false, true} {
		// The initiator's last message is the last one of all: with it, it says what came last again.
		w := among(t, three, "a", "b")
		w.open(api.OK, "a", "b")
		w.pass(api.OK)
		answer := w.way[0]
		w.through()
		w.again(answer, true)
		w.ping(api.OK, "b", "a")
		w.send(api.OK, "b", "a", "hi")
		good := w.take(0)
		if !keep {
			good = w.take(0)
		}
		forged := mail{good.from, good.to, bytes.Clone(good.b)}
		forged.b[len(forged.b)-1] ^= 1
		w.gives(api.ErrAuth, forged)
		w.again(answer, true)
		elsewhere := mail{good.from, good.to, bytes.Clone(good.b)}
		elsewhere.b[1] ^= 7
		w.gives(api.ErrClosed, elsewhere)
		w.again(answer, true)
		w.send(api.OK, "a", "b", "what is sent changes nothing")
		w.take(len(w.way) - 1)
		w.again(answer, true)
		w.gives(api.OK, good)
		w.again(answer, false)
		w.gives(api.ErrReplay, good)
	}
}

// P23.4: as long as a handshake is under way its flight stays, whatever Data comes by the session ahead of it.
func TestFlightStaysWithAHandshake(t *testing.T) {
	w := among(t, three, "a", "b")
	w.up("a", "b")
	w.send(api.OK, "b", "a", "goes")
	w.pass(api.OK)
	w.open(api.OK, "a", "b")
	w.send(api.OK, "b", "a", "stays")
	w.gives(api.OK, w.take(1))
	w.now += 5
	w.tick("a", 1)
	w.isFlight(1, 1, 0, 0, zeros)
	w.take(1)
	hello := w.take(0)
	w.tells("a", "b", "the flight of b goes")
	w.gives(api.OK, hello)
	w.send(api.OK, "a", "b", "stays")
	w.gives(api.OK, w.take(1))
	w.again(hello, true)
}
