package tunnel

import (
	"bytes"
	"testing"

	"redan/api"
	"redan/cookie"
	"redan/wire"
)

// gets hands a cookie to an end, and looks for this error; what is sent lies on the way alone.
func (w *world) gets(want api.Errno, from, to string, number uint32, mac []byte) {
	w.t.Helper()
	w.way = nil
	w.gives(want, w.mailOf(from, to, wire.Packet{Kind: wire.Cookie, To: number, Mac: mac}))
	if want != api.OK && len(w.way) > 0 {
		w.t.Fatal("something was sent")
	}
}

// P23.4: a cookie that may come is the cookie from now on, and the flight is sent, as often as one comes.
func TestCookieSendsTheFlight(t *testing.T) {
	for _, name := range []string{two, "NN", "XX", wide} {
		w := among(t, name, "a", "b")
		w.open(api.OK, "a", "c")
		w.open(api.OK, "a", "b")
		for seed := range 3 {
			mac := row(16, seed)
			w.gets(api.OK, "b", "a", 2, mac)
			w.isFlight(0, 2, 0, 0, mac)
			if len(w.way) != w.packet(0).Parts {
				t.Errorf("%s: %d datagrams", name, len(w.way))
			}
		}
		// What is said again has that cookie, too; the other peer has none.
		w.now += 5
		w.way = nil
		w.tick("a", 2*len(w.ends["a"].p.of("b").flight))
		w.isFlight(0, 1, 0, 0, zeros)
		w.isFlight(len(w.way)/2, 2, 0, 0, row(16, 2))
	}
}

// P23.4: a cookie is no time at which a message is said: the timer goes on.
func TestCookieDoesNotStartTheTimer(t *testing.T) {
	w := among(t, two, "a")
	w.open(api.OK, "a", "b")
	w.now += 4
	w.gets(api.OK, "b", "a", 1, row(16, 1))
	w.tick("a", 0)
	w.now++
	w.tick("a", 1)
	w.now += 9
	w.gets(api.OK, "b", "a", 1, row(16, 1))
	w.tick("a", 0)
	w.now++
	w.tick("a", 1)
}

// P23.4: ErrState, if there is no peer; if To isn't our number.
func TestCookieForNobody(t *testing.T) {
	w := among(t, two, "a")
	w.gets(api.ErrState, "b", "a", 0, row(16, 1))
	w.gets(api.ErrState, "b", "a", 1, row(16, 1))
	w.open(api.OK, "a", "c")
	w.open(api.OK, "a", "b")
	for _, number := range []uint32{0, 1, 3, 258, 1 << 31, 1<<32 - 1} {
		w.gets(api.ErrState, "b", "a", number, row(16, 1))
	}
	w.gets(api.ErrState, "d", "a", 2, row(16, 1))
	w.gets(api.ErrState, "c", "a", 2, row(16, 1))
	w.gets(api.OK, "b", "a", 2, row(16, 1))
	w.gets(api.OK, "c", "a", 1, row(16, 2))
}

// P23.4: ErrState, of a handshake that the other side began.
func TestCookieForWhoAnswered(t *testing.T) {
	w := among(t, three, "a", "b")
	w.open(api.OK, "a", "b")
	w.pass(api.OK)
	answer := w.way[0]
	w.gets(api.ErrState, "a", "b", 1, row(16, 1))
	w.gives(api.OK, answer)
	w.through()
	w.ups("b", "a", true)
	w.gets(api.ErrState, "a", "b", 1, row(16, 1))
}

// P23.4: ErrState, once something came of the handshake; once it is over.
func TestCookieTooLate(t *testing.T) {
	w := among(t, eight, "a", "b")
	w.open(api.OK, "a", "b")
	opened := w.way
	w.gets(api.OK, "b", "a", 1, row(16, 1))
	w.way = opened
	w.passes(2)
	answered := w.way
	w.gets(api.ErrState, "b", "a", 1, row(16, 2))
	w.now += 5
	w.tick("a", len(answered))
	w.isFlight(0, 1, 1, 2, row(16, 1))
	w.way = answered
	w.through()
	w.gets(api.ErrState, "b", "a", 1, row(16, 2))
	w.open(api.OK, "a", "b")
	w.gets(api.OK, "b", "a", 1, row(16, 3))
	w.isFlight(0, 1, 0, 0, row(16, 3))
}

// P23.4: a part of the answer alone is nothing that came: a cookie may still come.
func TestCookieBehindAPart(t *testing.T) {
	w := among(t, "NN", "a", "b")
	w.open(api.OK, "a", "b")
	w.passes(2)
	answer := w.way
	w.gives(api.OK, answer[0])
	w.gets(api.OK, "b", "a", 1, row(16, 1))
	w.isFlight(0, 1, 0, 0, row(16, 1))
	w.gives(api.OK, answer[1])
	w.ups("a", "b", true)
	w.gets(api.ErrState, "b", "a", 1, row(16, 2))
}

// P23.4: of a handshake that was given up there is nothing to send.
func TestCookieBehindTheEnd(t *testing.T) {
	w := among(t, two, "a", "b")
	w.up("a", "b")
	w.open(api.OK, "a", "b")
	for _, wait := range []uint64{5, 10, 20} {
		w.now += wait
		w.tick("a", 1)
	}
	w.gets(api.OK, "b", "a", 1, row(16, 1))
	w.now += 20
	w.tick("a", 0)
	w.gets(api.ErrState, "b", "a", 1, row(16, 2))
	w.peers("a", 1)
}

// loaded is a world in which an end asks for cookies of all.
func loaded(t *testing.T, name string, load int) *world {
	t.Helper()
	w := among(t, name, "a", "b", "c")
	w.with("b", func(c *Config) { c.Load, c.Peers = load, 9 })
	return w
}

// asks hands a first message's fragment on, and looks that a cookie is asked for, and nothing else comes.
func (w *world) asks(m mail, from uint32, epoch uint64) {
	w.t.Helper()
	was := len(w.way)
	held := w.ends[m.to].x.buffer.Total()
	v := w.gives(api.ErrCookie, m)
	if len(v.Outs) != 1 || v.Outs[0].Addr != m.from || v.Got || v.Up || v.Data != nil || w.ends[m.to].x.buffer.Total() != held {
		w.t.Fatalf("ErrCookie's Event: %v", v)
	}
	p := got(w.t, v.Outs[0].Bytes)
	want := cookie.Make([]byte("secret of "+m.to), epoch, m.from)
	if p.Kind != wire.Cookie || p.To != from || !bytes.Equal(p.Mac, want) || len(w.way) != was+1 {
		w.t.Fatalf("asked is by %+v", p)
	}
}

// P23.4: with Load handshakes, or more, a cookie is asked for; with one fewer none.
func TestLoad(t *testing.T) {
	for load := range 5 {
		w := loaded(t, three, load)
		for i := range 6 {
			from := string(rune('p' + i))
			m := mail{from, "b", hello(t, uint32(40+i))}
			if i < load {
				w.gives(api.OK, m)
				w.peers("b", i+1)
				continue
			}
			w.asks(m, uint32(40+i), 50)
			w.peers("b", load)
			by := cookie.Make([]byte("secret of b"), 50, from)
			w.gives(api.OK, mail{from, "b", signed(t, m.b, by)})
			w.peers("b", load+1)
			w.ends["b"].close(from)
		}
	}
}

// P23.4: a handshake counts as long as it is under way, whoever began it; a session counts for nothing.
func TestLoadCountsHandshakes(t *testing.T) {
	w := loaded(t, two, 1)
	hi := mail{"p", "b", hello(t, 5)}
	w.open(api.OK, "b", "a")
	w.asks(hi, 5, 50)
	w.take(1)
	w.through()
	w.gives(api.OK, hi)
	w.ups("b", "p", true)
	w.gives(api.OK, mail{"q", "b", hello(t, 6)})
	w.gives(api.OK, mail{"r", "b", hello(t, 6)})
	w.open(api.OK, "b", "p")
	w.asks(mail{"s", "b", hello(t, 7)}, 7, 50)
	w.ends["b"].close("p")
	w.gives(api.OK, mail{"s", "b", hello(t, 7)})
}

// P23.4: valid is a code by the cookie of this period or the one ahead, of the own secret, of this address, of all of
// the fragment.
func TestWhichCookieIsValid(t *testing.T) {
	w := loaded(t, two, 0)
	w.now = 1015
	b := hello(t, 33)
	secret := []byte("secret of b")
	try := func(want bool, name string, b []byte) {
		t.Helper()
		w.ends["b"].close("a")
		if !want {
			w.asks(mail{"a", "b", b}, got(t, b).From, 50)
			w.peers("b", 0)
			return
		}
		if v := w.gives(api.OK, mail{"a", "b", b}); !v.Up {
			t.Errorf("%s: Up %v", name, v.Up)
		}
	}
	by := func(secret []byte, epoch uint64, addr string) []byte {
		return signed(t, b, cookie.Make(secret, epoch, addr))
	}
	try(true, "this period's", by(secret, 50, "a"))
	try(true, "the one's ahead", by(secret, 49, "a"))
	try(false, "the one's before", by(secret, 48, "a"))
	try(false, "the next one's", by(secret, 51, "a"))
	try(false, "another address's", by(secret, 50, "c"))
	try(false, "no address's", by(secret, 50, ""))
	try(false, "another secret's", by([]byte("secret of a"), 50, "a"))
	try(false, "none", b)
	try(false, "of zeros", signed(t, b, zeros))
	good := by(secret, 50, "a")
	for bit := range 8 * 28 {
		// From, To, and Mac; another Kind, Msg, Part and Parts is another packet.
		if bit < 8 || bit >= 72 && bit < 96 {
			continue
		}
		bad := bytes.Clone(good)
		bad[bit/8] ^= 1 << (bit % 8)
		try(false, "turned", bad)
	}
	bad := bytes.Clone(good)
	bad[len(bad)-1] ^= 128
	try(false, "another body's", bad)
	try(true, "again", good)
}

// P23.4: the period is asked at each call's own moment.
func TestCookiePeriods(t *testing.T) {
	for _, x := range []struct {
		period, now, epoch uint64
		ahead              bool
	}{{20, 1019, 50, true}, {20, 1020, 51, true}, {20, 19, 0, false}, {0, 7, 7, true}, {1, 0, 0, false}, {1 << 40, 5, 0, false}} {
		w := loaded(t, two, 0)
		w.with("b", func(c *Config) { c.Period = x.period })
		w.now = x.now
		w.asks(mail{"a", "b", hello(t, 3)}, 3, x.epoch)
		by := func(epoch uint64) mail {
			return mail{"a", "b", signed(t, hello(t, 3), cookie.Make([]byte("secret of b"), epoch, "a"))}
		}
		w.asks(by(x.epoch+1), 3, x.epoch)
		if x.ahead {
			w.gives(api.OK, by(x.epoch-1))
			w.ends["b"].close("a")
		} else {
			w.asks(by(x.epoch-1), 3, x.epoch)
		}
		w.gives(api.OK, by(x.epoch))
	}
}

// P23.4: two ends: who is asked for a cookie shows it, and comes in; each fragment is asked for it, the other
// messages' are not.
func TestCookieGoesRound(t *testing.T) {
	for _, name := range []string{two, three, "NN", "XX", eight} {
		w := loaded(t, name, 0)
		w.open(api.OK, "c", "d")
		w.way = nil
		w.open(api.OK, "a", "b")
		parts := len(w.way)
		for range parts {
			w.pass(api.ErrCookie)
		}
		w.peers("b", 0)
		w.now += 20
		w.pass(api.OK)
		for len(w.way) > parts {
			w.take(0)
		}
		w.isFlight(0, 1, 0, 0, cookie.Make([]byte("secret of b"), 50, "a"))
		w.through()
		w.talks("a", "b")
		if !w.ends["b"].x.Up("a") {
			t.Errorf("%s: b isn't up", name)
		}
	}
}

// P23.4: the cookie is asked for ahead of all else: of who has a handshake, of what came, of pieces that don't fit,
// when there is no room; but not of other messages.
func TestCookieIsAskedForFirst(t *testing.T) {
	w := loaded(t, three, 1)
	w.with("b", func(c *Config) { c.Load, c.Peers = 1, 1 })
	w.open(api.OK, "a", "b")
	first := w.way[0]
	w.pass(api.OK)
	w.asks(first, 1, 50)
	w.take(len(w.way) - 1)
	w.asks(mail{"p", "b", hello(t, 4)}, 4, 50)
	w.take(len(w.way) - 1)
	by := func(addr string) []byte { return cookie.Make([]byte("secret of b"), 50, addr) }
	w.gives(api.ErrFull, mail{"p", "b", signed(t, hello(t, 4), by("p"))})
	// What came last, once more, with the cookie: the answer is sent again.
	v := w.gives(api.OK, mail{"a", "b", signed(t, first.b, by("a"))})
	if len(v.Outs) != 1 || got(t, v.Outs[0].Bytes).Msg != 1 {
		t.Errorf("sent again is %v", v.Outs)
	}
	w.gives(api.ErrState, mail{"p", "b", piece(t, 4, 1)})
	w.gives(api.ErrState, mail{"a", "b", piece(t, 4, 1)})
	w.through()
	w.talks("a", "b")
}
