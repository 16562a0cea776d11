package tunnel

import (
	"math"
	"testing"

	"redan/api"
	"redan/frag"
	"redan/pattern"
)

// The chapter's examples.
func TestExamples(t *testing.T) {
	x, e := New(config(t, "a", "NN"))
	if e != api.OK {
		t.Fatalf("New: error %d", int(e))
	}
	if outs, e := x.Send("b", []byte("hi"), 0); outs != nil || e != api.ErrPeer {
		t.Errorf("Send to an address without a peer: %v, error %d", outs, int(e))
	}
	c := config(t, "a", "NN")
	c.Peers = 0
	x, e = New(c)
	if e != api.OK {
		t.Fatalf("New with Peers 0: error %d", int(e))
	}
	if outs, e := x.Open("b", []byte("chance"), 0); outs != nil || e != api.ErrFull {
		t.Errorf("Open with Peers 0: %v, error %d", outs, int(e))
	}
}

// The whole's examples 1, 2, 3 and 4, of two ends.
func TestExamplesOfTheWhole(t *testing.T) {
	w := among(t, "NN", "a", "b")
	w.send(api.ErrPeer, "a", "b", "hi")
	w.open(api.OK, "a", "b")
	w.passes(1)
	if v := w.pass(api.OK); !v.Up {
		t.Error("b isn't up")
	}
	w.passes(1)
	if v := w.pass(api.OK); !v.Up {
		t.Error("a isn't up")
	}
	w.tells("a", "b", "hi")
	w.send(api.OK, "a", "b", "hi")
	w.way = append(w.way, w.way[0])
	w.pass(api.OK)
	w.pass(api.ErrReplay)
	w.send(api.OK, "a", "b", "hi")
	w.way[0].b[20] ^= 1
	w.pass(api.ErrAuth)
}

// refusedPatterns are patterns that New refuses, with what pattern.Check says of them.
func refusedPatterns(t *testing.T) map[api.Errno][]pattern.Pattern {
	t.Helper()
	parse := func(text string) pattern.Pattern {
		p, e := pattern.Parse(text)
		if e != api.OK {
			t.Fatalf("%q: error %d", text, int(e))
		}
		return p
	}
	nameless, long := patternOf(t, two), patternOf(t, two)
	nameless.Name = "a name"
	for range 4 {
		long.Messages = append(long.Messages, long.Messages[:2]...)
	}
	return map[api.Errno][]pattern.Pattern{
		api.ErrArg:  {{}, {Name: "X"}, nameless, long},
		api.ErrRule: {parse("X:\n-> ee\n"), parse("X:\n<- e\n"), parse("X:\n-> e\n-> e1\n"), parse("X:\n-> e, e\n")},
	}
}

// P23.1: New tells pattern.Check's error, ahead of its own.
func TestNewRefusesPatterns(t *testing.T) {
	for want, list := range refusedPatterns(t) {
		for i, p := range list {
			for _, n := range []int{-1, 0, 2} {
				c := config(t, "a", "NN")
				c.Pattern, c.Peers, c.Load = p, n, n
				if x, e := New(c); x != nil || e != want || e != pattern.Check(p) {
					t.Errorf("pattern %d of error %d, Peers and Load %d: error %d", i, int(want), n, int(e))
				}
			}
		}
	}
}

// P23.1: New refuses Peers and Load below 0, and takes 0, and all else as it is.
func TestNewBounds(t *testing.T) {
	counts := []int{math.MinInt, -2, -1, 0, 1, 2, math.MaxInt}
	for _, peers := range counts {
		for _, load := range counts {
			c := config(t, "a", two)
			c.Peers, c.Load = peers, load
			x, e := New(c)
			if peers < 0 || load < 0 {
				if x != nil || e != api.ErrArg {
					t.Errorf("Peers %d, Load %d: error %d", peers, load, int(e))
				}
				continue
			}
			if x == nil || e != api.OK {
				t.Errorf("Peers %d, Load %d: error %d", peers, load, int(e))
			}
		}
	}
	c := Config{Pattern: patternOf(t, "IK"), Frags: frag.Limits{Peer: -1, All: math.MinInt}}
	if x, e := New(c); x == nil || e != api.OK {
		t.Errorf("without keys, rules and bounds: error %d", int(e))
	}
}

// P23.1: a new end has no peers, whoever is known.
func TestNewIsEmpty(t *testing.T) {
	for _, name := range []string{"IK", "KK", "NK", "NN", "NNpsk", "XX", one, eight} {
		b := made(t, config(t, "a", name))
		for _, addr := range []string{"", "a", "b", "c", "nobody"} {
			b.uses(addr)
			if b.x.Up(addr) || b.x.Hash(addr) != nil || b.x.Peers() != 0 {
				t.Errorf("%s: a new end has a peer %q", name, addr)
			}
			if e := b.close(addr); e != api.ErrPeer {
				t.Errorf("%s: Close: error %d", name, int(e))
			}
		}
		if outs := b.tick([]byte("chance"), math.MaxUint64); outs != nil {
			t.Errorf("%s: Tick: %v", name, outs)
		}
	}
}

// asNone holds all calls of an end that there isn't to one error of those that make peers.
func asNone(t *testing.T, x *Tunnel, open, send, shut, handled api.Errno) {
	t.Helper()
	for _, addr := range []string{"", "b"} {
		for _, b := range [][]byte{nil, row(30, 1), row(2000, 2), piece(t, 1, 0)} {
			if outs, e := x.Open(addr, b, 5); outs != nil || e != open {
				t.Errorf("Open: %v, error %d", outs, int(e))
			}
			if outs, e := x.Send(addr, b, 5); outs != nil || e != send {
				t.Errorf("Send: %v, error %d", outs, int(e))
			}
			if outs := x.Tick(b, 5); outs != nil {
				t.Errorf("Tick: %v", outs)
			}
		}
		if outs, e := x.Ping(addr, 5); outs != nil || e != send {
			t.Errorf("Ping: %v, error %d", outs, int(e))
		}
		if e := x.Close(addr); e != shut {
			t.Errorf("Close: error %d", int(e))
		}
		if v, e := x.Handle(addr, piece(t, 1, 0), nil, 5); v.Data != nil || v.Got || v.Up || e != handled {
			t.Errorf("Handle: %v, error %d", v, int(e))
		}
		if x.Peers() != 0 || x.Up(addr) || x.Hash(addr) != nil {
			t.Error("an end that there isn't has peers")
		}
	}
}

// P23.1: of nil: ErrArg, nothing, 0, false.
func TestNil(t *testing.T) {
	asNone(t, nil, api.ErrArg, api.ErrArg, api.ErrArg, api.ErrArg)
	var x *Tunnel
	for _, b := range [][]byte{nil, {}, row(1201, 1), {9}, piece(t, 1, 0), cookieTo(t, 1), sealedTo(t, 3, 1, 0)} {
		v, e := x.Handle("a", b, nil, 0)
		if v.Outs != nil || v.Data != nil || v.Got || v.Up || e != api.ErrArg {
			t.Errorf("Handle of nil: %v, error %d", v, int(e))
		}
	}
}

// Rule 1: an end that New didn't make has some answer.
func TestZeroTunnel(t *testing.T) {
	asNone(t, &Tunnel{}, api.ErrFull, api.ErrPeer, api.ErrPeer, api.ErrCookie)
	var x Tunnel
	for _, b := range [][]byte{nil, row(1201, 1), piece(t, 1, 0), piece(t, 1, 3), cookieTo(t, 1), sealedTo(t, 3, 1, 0), sealedTo(t, 4, 1, 0)} {
		if v, e := x.Handle("a", b, nil, 0); e == api.OK {
			t.Errorf("Handle: %v", v)
		}
	}
}
