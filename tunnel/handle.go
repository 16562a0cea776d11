package tunnel

import (
	"redan/api"
	"redan/cookie"
	"redan/sponge"
	"redan/wire"
)

// Handle takes a datagram in.
func (t *Tunnel) Handle(addr string, datagram, chance []byte, now uint64) (Event, api.Errno) {
	if t == nil {
		return Event{}, api.ErrArg
	}
	packet, e := wire.Get(datagram)
	if e != api.OK {
		return Event{}, e
	}
	switch packet.Kind {
	case wire.Fragment:
		return t.handleFragment(addr, packet, sponge.Shake256(chance).Read, now)
	case wire.Cookie:
		return t.handleCookie(addr, packet)
	}
	return t.handleSealed(addr, packet, now)
}

// handleSealed opens what is sealed in Data or Keep.
func (t *Tunnel) handleSealed(addr string, packet wire.Packet, now uint64) (Event, api.Errno) {
	p := t.peers[addr]
	if p == nil {
		return Event{}, api.ErrPeer
	}
	if p.link == nil || packet.To != p.number {
		return Event{}, api.ErrClosed
	}
	data, e := p.link.session.Open(packet.Counter, packet.Body, now)
	if e != api.OK {
		return Event{}, e
	}
	// The other side has the session: it won't ask for our last message any more.
	if p.shake == nil {
		p.flight = nil
	}
	if packet.Kind == wire.Keep {
		return Event{}, api.OK
	}
	return Event{Data: data, Got: true}, api.OK
}

// handleCookie sends the flight again, with the cookie that the other side asks for.
func (t *Tunnel) handleCookie(addr string, packet wire.Packet) (Event, api.Errno) {
	p := t.peers[addr]
	if p == nil || p.shake == nil || !p.began || p.last != none || packet.To != p.number {
		return Event{}, api.ErrState
	}
	copy(p.cookie[:], packet.Mac)
	return Event{Outs: p.sendFlight()}, api.OK
}

// handleFragment takes a piece of a handshake's message.
func (t *Tunnel) handleFragment(addr string, piece wire.Packet, draw func(int) []byte, now uint64) (Event, api.Errno) {
	if piece.Msg == 0 && t.busy() && !t.hasCookie(addr, piece, now) {
		return Event{Outs: t.askCookie(addr, piece, now)}, api.ErrCookie
	}
	p := t.peers[addr]
	switch {
	case p.awaits(piece.Msg):
		return t.handleNext(addr, piece, draw, now)
	case !p.cameLast(piece.Msg):
		return Event{}, api.ErrState
	case piece.Part == 0 && p.answered(piece.Msg):
		return Event{Outs: p.sendFlight()}, api.OK
	}
	return Event{}, api.OK
}

// busy tells whether there is too much to do for those that show no cookie.
func (t *Tunnel) busy() bool {
	shakes := 0
	for _, p := range t.peers {
		if p.shake != nil {
			shakes++
		}
	}
	return shakes >= t.config.Load
}

// hasCookie tells whether a piece is signed by a cookie of its source.
func (t *Tunnel) hasCookie(addr string, piece wire.Packet, now uint64) bool {
	return cookie.Valid(t.config.Secret, now, t.config.Period, addr, wire.Signed(piece), piece.Mac)
}

// askCookie tells a piece's source its cookie.
func (t *Tunnel) askCookie(addr string, piece wire.Packet, now uint64) []Out {
	mac := cookie.Make(t.config.Secret, cookie.Epoch(now, t.config.Period), addr)
	return outsTo(addr, wire.Packet{Kind: wire.Cookie, To: piece.From, Mac: mac})
}

// handleNext takes a piece of a message that is the next one; what is answered to it, once it is whole.
func (t *Tunnel) handleNext(addr string, piece wire.Packet, draw func(int) []byte, now uint64) (Event, api.Errno) {
	if t.peers[addr] == nil && t.full() {
		return Event{}, api.ErrFull
	}
	message, e := t.buffer.Add(addr, piece.Msg, piece.Part, piece.Parts, piece.Body, now)
	// No whole message is empty: each piece has a byte.
	if e != api.OK || len(message) == 0 {
		return Event{}, e
	}
	p, e := t.read(addr, message)
	if e != api.OK {
		return Event{}, e
	}
	p.other, p.last = piece.From, piece.Msg
	if p.settle(t.config.Rules, now) {
		return Event{Up: true}, api.OK
	}
	pieces, e := compose(p.shake, draw)
	if e != api.OK {
		return Event{}, e
	}
	up := p.say(pieces, t.config.Rules, now)
	return Event{Outs: p.sendFlight(), Up: up}, api.OK
}

// read reads a message, and tells whose it is: the peer's with a handshake, or one's that begins one by it. Only who
// says a message that is read becomes a peer.
func (t *Tunnel) read(addr string, message []byte) (*peer, api.Errno) {
	p := t.peers[addr]
	if p != nil && p.shake != nil {
		_, e := p.shake.Read(message)
		return p, e
	}
	s, e := t.shakeWith(addr, false)
	if e != api.OK {
		return nil, e
	}
	if _, e := s.Read(message); e != api.OK {
		return nil, e
	}
	p = t.peerAt(addr)
	p.begin(s, false)
	return p, api.OK
}
