package tunnel

import (
	"slices"

	"redan/api"
	"redan/cookie"
	"redan/frag"
	"redan/hand"
	"redan/session"
	"redan/wire"
)

// none is what came last, as long as nothing came.
const none = -1

// peer is one with whom there is a handshake, or a session, or both.
type peer struct {
	addr   string
	number uint32 // ours
	other  uint32 // the other side's; 0, as long as it said none
	shake  *hand.Shake
	next   int // which message of the handshake is the next one
	last   int // which message of the other side came last
	flight []wire.Packet
	timer  *session.Timer
	cookie [api.MacSize]byte
	began  bool // did we begin the handshake?
	link   *link
}

// link is a session, with what its handshake leaves.
type link struct {
	session *session.Session
	began   bool
	hash    []byte
	other   uint32
}

// begin puts a handshake in which nothing was said in the place of what was.
func (p *peer) begin(s *hand.Shake, began bool) {
	*p = peer{addr: p.addr, number: p.number, link: p.link, shake: s, last: none, began: began}
}

// compose are the pieces of a handshake's next message.
func compose(s *hand.Shake, draw func(int) []byte) ([][]byte, api.Errno) {
	message, e := s.Write(nil, draw(s.Need()))
	if e != api.OK {
		return nil, e
	}
	return frag.Split(message)
}

// say makes the flight of the pieces of a message that was written now; it tells whether there is a new session.
func (p *peer) say(pieces [][]byte, r session.Rules, now uint64) bool {
	p.flight = nil
	for i, piece := range pieces {
		p.flight = append(p.flight, wire.Packet{
			Kind: wire.Fragment, From: p.number, To: p.other, Msg: p.next, Part: i, Parts: len(pieces), Body: piece,
		})
	}
	p.timer = session.Start(r, now)
	return p.settle(r, now)
}

// settle counts a message that was said or read; it tells whether there is a new session.
func (p *peer) settle(r session.Rules, now uint64) bool {
	p.next++
	send, receive, e := p.shake.Split()
	if e != api.OK {
		return false
	}
	p.link = &link{session: session.New(send, receive, r, now), began: p.began, hash: p.shake.Hash(), other: p.other}
	p.shake = nil
	return true
}

// sendFlight are the flight's fragments as datagrams, each with its code by the cookie.
func (p *peer) sendFlight() []Out {
	signed := slices.Clone(p.flight)
	for i, f := range signed {
		// A fragment without room for its code is none that may be.
		f.Mac = make([]byte, api.MacSize)
		signed[i].Mac = cookie.Sign(p.cookie[:], wire.Signed(f))
	}
	return outsTo(p.addr, signed...)
}

// awaits tells whether a message is the next one: of the handshake, or the first one of a new handshake. The first one
// once more is no new one, as long as what was said to it may have been lost.
func (p *peer) awaits(msg int) bool {
	switch {
	case p == nil:
		return msg == 0
	case p.shake != nil:
		return !p.shake.Turn() && p.next == msg
	}
	return msg == 0 && !(p.cameLast(0) && len(p.flight) > 0)
}

// cameLast tells whether a message is the one that came last.
func (p *peer) cameLast(msg int) bool { return p != nil && p.last == msg }

// answered tells whether the flight is of a later message than that one.
func (p *peer) answered(msg int) bool { return len(p.flight) > 0 && p.flight[0].Msg > msg }
