package tunnel

import (
	"bytes"
	"fmt"
	"testing"

	"redan/api"
	"redan/wire"
)

// P23.3: Send, Ping: ErrPeer without a peer, ErrClosed without a session; these are told ahead of ErrLong.
func TestSendWithoutASession(t *testing.T) {
	for _, size := range []int{0, 1, 1171, 1172, 70000} {
		data := string(row(size, 1))
		w := among(t, "XX", "a", "b")
		w.send(api.ErrPeer, "a", "b", data)
		w.ping(api.ErrPeer, "a", "b")
		w.open(api.OK, "a", "b")
		w.send(api.ErrClosed, "a", "b", data)
		w.ping(api.ErrClosed, "a", "b")
		w.send(api.ErrPeer, "a", "c", data)
		w.send(api.ErrPeer, "b", "a", data)
		w.passes(2)
		w.send(api.ErrClosed, "b", "a", data)
		w.ping(api.ErrClosed, "b", "a")
		w.through()
		want := api.OK
		if size > 1171 {
			want = api.ErrLong
		}
		w.send(want, "a", "b", data)
		w.send(want, "b", "a", data)
		w.ping(api.OK, "a", "b")
		w.ping(api.OK, "b", "a")
	}
}

// P23.3: data has 1171 bytes at most; what is refused counts nothing.
func TestSendSizes(t *testing.T) {
	w := among(t, two, "a", "b")
	w.open(api.OK, "b", "c")
	w.way = nil
	w.up("a", "b")
	counter := uint64(0)
	for _, size := range []int{0, 1, 15, 16, 17, 1170, 1171, 1172, 1173, 1187, 1200, 32768, 70000} {
		data := row(size, size)
		if size > 1171 {
			w.send(api.ErrLong, "a", "b", string(data))
			continue
		}
		w.send(api.OK, "a", "b", string(data))
		p := w.packet(0)
		if p.Kind != wire.Data || p.To != 2 || p.Counter != counter || len(p.Body) != size+16 {
			t.Errorf("%d bytes: %+v", size, p)
		}
		counter++
		if v := w.pass(api.OK); !v.Got || !bytes.Equal(v.Data, data) || v.Up || len(v.Outs) > 0 {
			t.Errorf("%d bytes: told is %v", size, v)
		}
	}
}

// P23.3: Ping is a Keep of nothing, with the next number, of which nothing comes.
func TestPing(t *testing.T) {
	w := among(t, two, "a", "b")
	w.open(api.OK, "a", "c")
	w.way = nil
	w.up("a", "b")
	w.ping(api.OK, "b", "a")
	w.send(api.OK, "b", "a", "between")
	w.ping(api.OK, "b", "a")
	w.ping(api.OK, "a", "b")
	for i, kind := range []int{wire.Keep, wire.Data, wire.Keep} {
		if p := w.packet(i); p.Kind != kind || p.To != 2 || p.Counter != uint64(i) {
			t.Errorf("%d: %+v", i, p)
		}
	}
	if p := w.packet(3); p.Kind != wire.Keep || p.To != 1 || p.Counter != 0 || len(p.Body) != 16 {
		t.Errorf("%+v", p)
	}
	w.none(w.pass(api.OK))
	if v := w.pass(api.OK); string(v.Data) != "between" {
		t.Errorf("told is %v", v)
	}
	w.none(w.pass(api.OK))
	w.none(w.pass(api.OK))
}

// P23.3: the session's error: too old. Its age counts from its handshake's end at this side.
func TestSendTooOld(t *testing.T) {
	w := among(t, two, "a", "b")
	w.now = 50
	w.open(api.OK, "a", "b")
	w.now = 60
	w.pass(api.OK)
	w.now = 70
	w.pass(api.OK)
	for _, x := range []struct {
		now  uint64
		a, b api.Errno
	}{
		{0, api.OK, api.OK}, {70, api.OK, api.OK}, {179, api.OK, api.OK}, {180, api.OK, api.ErrExpired},
		{189, api.OK, api.ErrExpired}, {190, api.ErrExpired, api.ErrExpired}, {1 << 63, api.ErrExpired, api.ErrExpired}, {100, api.OK, api.OK},
	} {
		w.now = x.now
		w.send(x.a, "a", "b", "hi")
		w.send(x.b, "b", "a", "hi")
		w.ping(x.a, "a", "b")
		w.ping(x.b, "b", "a")
		w.send(api.ErrLong, "a", "b", string(row(1172, 1)))
		w.peers("a", 1)
	}
}

// P23.3: the session's error: too many, of Send and Ping together; a new handshake counts from 0 on.
func TestSendTooMany(t *testing.T) {
	w := among(t, two, "a", "b")
	for round := range 2 {
		w.up("a", "b")
		for i := range 30 {
			if i%2 == 0 {
				w.send(api.OK, "a", "b", fmt.Sprint(i))
			} else {
				w.ping(api.OK, "a", "b")
			}
			if p := w.packet(i); p.Counter != uint64(i) {
				t.Fatalf("round %d: number %d, not %d", round, p.Counter, i)
			}
		}
		w.send(api.ErrExpired, "a", "b", "hi")
		w.ping(api.ErrExpired, "a", "b")
		w.send(api.ErrLong, "a", "b", string(row(1172, 1)))
		w.through()
		w.tells("b", "a", "the other way")
	}
}

// P23.3: To is the other side's number as it was when the session began, whatever comes later.
func TestSendToTheSessionsNumber(t *testing.T) {
	w := among(t, eight, "a", "b")
	w.open(api.OK, "b", "d")
	w.way = nil
	w.up("a", "b")
	to := func(want uint32) {
		t.Helper()
		w.send(api.OK, "a", "b", "hi")
		if p := got(t, w.take(len(w.way)-1).b); p.To != want {
			t.Fatalf("To %d, not %d", p.To, want)
		}
	}
	to(2)
	// b forgets a, and has another number for it.
	w.ends["b"].close("a")
	w.open(api.OK, "a", "b")
	to(2)
	w.passes(2)
	to(2)
	if p := w.packet(0); p.Msg != 2 || p.To != 3 {
		t.Fatalf("%+v", p)
	}
	w.through()
	to(3)
	w.talks("a", "b")
}
