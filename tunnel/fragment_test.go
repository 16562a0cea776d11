package tunnel

import (
	"bytes"
	"slices"
	"testing"

	"redan/api"
	"redan/wire"
)

// allPatterns are those that are given, and those of the tests.
func allPatterns() []string {
	return []string{"IK", "KK", "NK", "NN", "NNpsk", "XX", two, three, eight, late, wide}
}

// P23.4, P23.7: two ends of each pattern open, answer, are up just once each, and send data both ways.
func TestTwoEnds(t *testing.T) {
	for _, name := range allPatterns() {
		w := among(t, name, "a", "b")
		w.open(api.OK, "b", "d")
		w.way = nil
		w.open(api.OK, "a", "b")
		ups := map[string]int{}
		for msg := 0; len(w.way) > 0; msg++ {
			from, to, fromNumber, toNumber := "a", "b", uint32(1), uint32(2)
			if msg%2 == 1 {
				from, to, fromNumber, toNumber = to, from, toNumber, fromNumber
			}
			if msg == 0 {
				toNumber = 0
			}
			parts := w.packet(0).Parts
			w.isFlight(0, fromNumber, toNumber, msg, zeros)
			for part := range parts {
				if w.way[0].from != from || w.way[0].to != to {
					t.Fatalf("message %d goes from %q to %q", msg, w.way[0].from, w.way[0].to)
				}
				v := w.pass(api.OK)
				if part < parts-1 {
					w.none(v)
				}
				if v.Up {
					ups[to]++
				}
				if v.Up != w.ends[to].x.Up(from) || v.Got {
					t.Fatalf("message %d, part %d: Up %v, Got %v", msg, part, v.Up, v.Got)
				}
			}
		}
		if ups["a"] != 1 || ups["b"] != 1 {
			t.Errorf("%s: up are %v", name, ups)
		}
		if a, b := w.ends["a"].x.Hash("b"), w.ends["b"].x.Hash("a"); len(a) != 32 || !bytes.Equal(a, b) {
			t.Errorf("%s: Hash %x and %x", name, a, b)
		}
		for range 3 {
			w.talks("a", "b")
		}
		w.peers("a", 1)
		w.peers("b", 2)
	}
}

// P23.4: fragments in another order, and twice, and some of them late.
func TestFragmentsInAnyOrder(t *testing.T) {
	for _, name := range []string{"NN", "XX", "IK", wide} {
		for _, twice := range []bool{false, true} {
			w := among(t, name, "a", "b")
			w.open(api.OK, "a", "b")
			for len(w.way) > 0 {
				flight := w.way
				w.way = nil
				slices.Reverse(flight)
				if twice {
					flight = append(slices.Clone(flight[:len(flight)-1]), flight...)
				}
				for i, m := range flight {
					w.now += 3
					v := w.gives(api.OK, m)
					if i < len(flight)-1 {
						w.none(v)
					}
				}
			}
			w.talks("a", "b")
		}
	}
}

// P23.4: what is lost is sent again: it is enough that each fragment comes once.
func TestFragmentsThatAreLost(t *testing.T) {
	w := among(t, "NN", "a", "b")
	w.open(api.OK, "a", "b")
	w.take(0)
	w.pass(api.OK)
	w.now += 5
	w.tick("a", 2)
	w.pass(api.OK)
	// The rest of the message came before; b has answered, and who says the first message again is answered again.
	w.isFlight(1, 1, 1, 1, zeros)
	w.way = w.way[:1]
	w.none(w.pass(api.OK))
	w.now += 10
	w.tick("a", 2)
	w.pass(api.OK)
	w.isFlight(1, 1, 1, 1, zeros)
	w.take(0)
	w.through()
	w.talks("a", "b")
}

// P23.4: ErrState, of a message that is neither the next one nor came last; nothing of it is kept.
func TestFragmentThatIsNotTheNext(t *testing.T) {
	w := among(t, eight, "a", "b")
	refused := func(from, to string, next, came int) {
		t.Helper()
		for msg := range 8 {
			if msg == next || msg == came {
				continue
			}
			was := w.ends[to].x.buffer.Count()
			w.none(w.gives(api.ErrState, mail{from, to, piece(t, 77, msg)}))
			if w.ends[to].x.buffer.Count() != was {
				t.Fatal("it was kept")
			}
		}
	}
	refused("a", "b", 0, -1)
	w.open(api.OK, "a", "b")
	refused("b", "a", 1, -1)
	for msg := range 8 {
		from, to := "a", "b"
		if msg%2 == 1 {
			from, to = to, from
		}
		// At first no peer is there; the last ones leave a session behind, and then Msg 0 may begin anew.
		w.passes(w.packet(0).Parts)
		next := msg + 2
		if msg >= 6 {
			next = 0
		}
		refused(from, to, next, msg)
	}
	w.talks("a", "b")
	refused("a", "b", 0, 6)
	refused("b", "a", 0, 7)
}

// P23.4: two that open to each other at once: neither takes the other one's message, till one is given up.
func TestBothOpen(t *testing.T) {
	w := among(t, two, "a", "b")
	w.open(api.OK, "a", "b")
	w.open(api.OK, "b", "a")
	w.pass(api.ErrState)
	w.pass(api.ErrState)
	w.ends["a"].close("b")
	w.open(api.OK, "b", "c")
	w.way = nil
	w.now += 5
	w.tick("b", 2)
	w.pass(api.OK)
	w.take(0)
	w.through()
	w.talks("a", "b")
}

// P23.4: what came last, with Part 0: the flight is sent, if it is of a later message; of other parts nothing.
func TestWhatCameLast(t *testing.T) {
	w := among(t, eight, "a", "b")
	w.open(api.OK, "a", "b")
	for len(w.way) > 0 {
		flight := w.way
		m := flight[0]
		p := w.packet(0)
		w.passes(p.Parts)
		answer := w.way
		last := p.Msg == 7
		for _, again := range flight {
			for _, part := range []int{0, 1, 5} {
				w.way = nil
				b := changed(t, again.b, func(p *wire.Packet) {
					// Nothing of it is looked at but Msg and Part.
					p.Part, p.Parts, p.Body, p.From, p.To, p.Mac = part, 7, row(1024, 8), 5, 6, row(16, 8)
				})
				v := w.gives(api.OK, mail{m.from, m.to, b})
				if part > 0 || last {
					w.none(v)
					continue
				}
				if len(w.way) != len(answer) || v.Up {
					t.Fatalf("message %d again: %d datagrams, Up %v", p.Msg, len(w.way), v.Up)
				}
				for i := range answer {
					if !bytes.Equal(answer[i].b, w.way[i].b) || answer[i].to != w.way[i].to {
						t.Fatalf("message %d again: another datagram", p.Msg)
					}
				}
			}
		}
		w.way = answer
	}
	w.talks("a", "b")
}

// P23.4: what came last of a handshake that ends with it is nothing once more: our flight is of a message before.
func TestTheLastMessageAgain(t *testing.T) {
	for _, name := range []string{two, three, "XX"} {
		w := among(t, name, "a", "b")
		w.open(api.OK, "a", "b")
		var last []mail
		for len(w.way) > 0 {
			last = w.way
			w.passes(w.packet(0).Parts)
		}
		for _, m := range last {
			w.none(w.gives(api.OK, m))
		}
		w.talks("a", "b")
		for _, m := range last {
			w.none(w.gives(api.OK, m))
		}
	}
}

// P23.4: the first message once more, behind a session: with a flight it is what came last; without one it begins anew.
func TestTheFirstMessageAgain(t *testing.T) {
	w := among(t, "NN", "a", "b")
	w.open(api.OK, "a", "b")
	first := w.way
	w.passes(2)
	answer := w.way
	hash := w.ends["b"].x.Hash("a")
	if v := w.gives(api.OK, first[0]); len(v.Outs) != 2 || !bytes.Equal(v.Outs[0].Bytes, answer[0].b) || v.Up {
		t.Errorf("the first part: %v", v)
	}
	w.none(w.gives(api.OK, first[1]))
	if !bytes.Equal(w.ends["b"].x.Hash("a"), hash) {
		t.Error("another Hash")
	}
	w.through()
	w.tells("a", "b", "the flight of b goes")
	w.none(w.gives(api.OK, first[0]))
	if v := w.gives(api.OK, first[1]); !v.Up || len(v.Outs) != 2 || bytes.Equal(v.Outs[0].Bytes, answer[0].b) {
		t.Errorf("the whole message: %v", v)
	}
	if bytes.Equal(w.ends["b"].x.Hash("a"), hash) {
		t.Error("the same Hash")
	}
	w.peers("b", 1)
	// It came from who said it before: a has no handshake, and what is answered came last there.
	w.none(w.pass(api.OK))
	w.none(w.pass(api.OK))
	w.send(api.OK, "a", "b", "with the older keys")
	w.pass(api.ErrAuth)
}

// P23.4: a peer whose other side begins anew keeps its session till there is another one.
func TestBeginsAnew(t *testing.T) {
	for _, opener := range []string{"a", "b"} {
		w := among(t, three, "a", "b")
		w.up(opener, map[string]string{"a": "b", "b": "a"}[opener])
		w.send(api.OK, "a", "b", "ahead")
		ahead := w.take(0)
		w.tells("a", "b", "the flight goes")
		hash := w.ends["b"].x.Hash("a")
		// a forgets b, and opens anew.
		w.ends["a"].close("b")
		w.open(api.OK, "a", "b")
		w.isFlight(0, 2, 0, 0, zeros)
		v := w.pass(api.OK)
		if v.Up || !bytes.Equal(w.ends["b"].x.Hash("a"), hash) {
			t.Errorf("up already: %v", v)
		}
		w.isFlight(0, 1, 2, 1, zeros)
		w.gives(api.OK, ahead)
		w.send(api.OK, "b", "a", "to who forgot")
		w.gives(api.ErrClosed, w.take(1))
		w.passes(1)
		if v := w.pass(api.OK); !v.Up {
			t.Error("b isn't up")
		}
		w.gives(api.ErrAuth, ahead)
		w.peers("b", 1)
		w.talks("a", "b")
	}
}

// P23.4: of a pattern with one message the one that takes it is up with it, each time that it comes: there is no flight.
func TestOneMessage(t *testing.T) {
	w := among(t, one, "a", "b")
	w.open(api.OK, "a", "b")
	hi := w.way[0]
	w.take(0)
	for round := range 3 {
		if v := w.gives(api.OK, hi); !v.Up || len(v.Outs) > 0 {
			t.Errorf("Up %v, %d datagrams", v.Up, len(v.Outs))
		}
		w.peers("b", 1)
		w.send(api.OK, "b", "a", "back")
		if p := w.packet(0); p.To != 1 || p.Counter != 0 {
			t.Errorf("%+v", p)
		}
		want := api.OK
		if round > 0 {
			want = api.ErrReplay
		}
		w.pass(want)
	}
	for _, msg := range []int{1, 2, 7} {
		w.gives(api.ErrState, mail{"a", "b", piece(t, 1, msg)})
	}
}

// P23.4: the other side's number is From of the fragment that made the message whole.
func TestWhoseNumber(t *testing.T) {
	w := among(t, "NN", "a", "b")
	w.open(api.OK, "a", "b")
	other := func(i int, from uint32) mail {
		m := w.take(i)
		return mail{m.from, m.to, changed(t, m.b, func(p *wire.Packet) { p.From = from })}
	}
	w.gives(api.OK, other(1, 500))
	w.gives(api.OK, other(0, 600))
	w.isFlight(0, 1, 600, 1, zeros)
	w.send(api.OK, "b", "a", "hi")
	if p := got(t, w.take(2).b); p.To != 600 {
		t.Errorf("To %d", p.To)
	}
	w.gives(api.OK, other(0, 700))
	w.gives(api.OK, other(0, 1<<32-1))
	w.send(api.OK, "a", "b", "hi")
	if p := got(t, w.take(0).b); p.To != 1<<32-1 {
		t.Errorf("To %d", p.To)
	}
	// What is no news has no number.
	w.ends["a"].close("b")
	w.open(api.OK, "a", "b")
	w.gives(api.OK, other(0, 900))
	w.isFlight(1, 1, 600, 1, zeros)
}

// P23.4: the other side's To is not looked at.
func TestToOfFragmentsDoesNotMatter(t *testing.T) {
	w := among(t, three, "a", "b")
	w.open(api.OK, "a", "b")
	for to := uint32(500); len(w.way) > 0; to++ {
		m := w.take(0)
		w.gives(api.OK, mail{m.from, m.to, changed(t, m.b, func(p *wire.Packet) { p.To = to })})
	}
	w.talks("a", "b")
}

// P23.4: one address's pieces are none of another's; who says a whole message is a peer, with the next number.
func TestWhoBecomesAPeer(t *testing.T) {
	w := among(t, "NN", "a", "b")
	w.open(api.OK, "a", "b")
	first := w.way
	w.way = nil
	for _, addr := range []string{"p", "q", ""} {
		w.none(w.gives(api.OK, mail{addr, "b", first[0].b}))
		w.peers("b", 0)
	}
	for i, addr := range []string{"q", "", "p"} {
		w.gives(api.OK, mail{addr, "b", first[1].b})
		w.peers("b", i+1)
		w.isFlight(0, uint32(i+1), 1, 1, zeros)
		if w.way[0].to != addr {
			t.Errorf("it goes to %q", w.way[0].to)
		}
		w.way = nil
	}
	w.gives(api.ErrFull, mail{"r", "b", first[0].b})
	if n := w.ends["b"].x.buffer.Count(); n != 0 {
		t.Errorf("%d entries", n)
	}
}

// P23.4: ErrFull, if there is no peer, and no room for one; ahead of the buffer, which keeps nothing. One with a peer
// needs none.
func TestFragmentWhenFull(t *testing.T) {
	for peers := range 3 {
		w := among(t, two, "a", "b")
		w.with("b", func(c *Config) { c.Peers = peers })
		for i := range 3 {
			want := api.OK
			if i >= peers {
				want = api.ErrFull
			}
			w.gives(want, mail{string(rune('p' + i)), "b", hello(t, uint32(i))})
			w.peers("b", min(i+1, peers))
		}
		part := changed(t, hello(t, 1), func(p *wire.Packet) { p.Parts, p.Body = 2, row(1024, 1) })
		w.gives(api.ErrFull, mail{"z", "b", part})
		if n := w.ends["b"].x.buffer.Count(); n != 0 {
			t.Errorf("%d entries", n)
		}
		if peers > 0 {
			// It came last, and the flight is still there.
			w.gives(api.OK, mail{"p", "b", hello(t, 0)})
			w.ends["b"].close("p")
			w.gives(api.OK, mail{"z", "b", part})
			w.gives(api.OK, mail{"p", "b", hello(t, 0)})
			w.gives(api.ErrFull, mail{"z", "b", part})
		}
	}
}
