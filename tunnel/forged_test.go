package tunnel

import (
	"bytes"
	"testing"

	"redan/cookie"
	"redan/wire"
)

// piece is a fragment that is a message of 32 bytes by itself.
func piece(t testing.TB, from uint32, msg int) []byte {
	t.Helper()
	return put(t, wire.Packet{Kind: wire.Fragment, From: from, Msg: msg, Parts: 1, Mac: make([]byte, 16), Body: row(32, int(from))})
}

// cookieTo is a packet with a cookie.
func cookieTo(t testing.TB, to uint32) []byte {
	t.Helper()
	return put(t, wire.Packet{Kind: wire.Cookie, To: to, Mac: row(16, 3)})
}

// sealedTo is a packet of Data or Keep that nobody sealed.
func sealedTo(t testing.TB, kind int, to uint32, counter uint64) []byte {
	t.Helper()
	return put(t, wire.Packet{Kind: kind, To: to, Counter: counter, Body: row(16, 4)})
}

// pieces are the fragments of a message.
func pieces(t testing.TB, from, to uint32, msg int, message []byte) [][]byte {
	t.Helper()
	var out [][]byte
	parts := (len(message) + 1023) / 1024
	for part := range parts {
		body := message[1024*part : min(len(message), 1024*part+1024)]
		out = append(out, put(t, wire.Packet{Kind: wire.Fragment, From: from, To: to, Msg: msg, Part: part, Parts: parts, Mac: make([]byte, 16), Body: body}))
	}
	return out
}

// signed is a fragment with its code by a cookie.
func signed(t testing.TB, b, by []byte) []byte {
	t.Helper()
	p := got(t, b)
	p.Mac = cookie.Sign(by, wire.Signed(p))
	return put(t, p)
}

// hello is what a stranger says first of a pattern that begins with e alone.
func hello(t testing.TB, from uint32) []byte { return piece(t, from, 0) }

// changed is a fragment with something else in it.
func changed(t testing.TB, b []byte, change func(p *wire.Packet)) []byte {
	t.Helper()
	p := got(t, bytes.Clone(b))
	change(&p)
	return put(t, p)
}
