package tunnel

import (
	"bytes"
	"crypto/sha3"
	"encoding/binary"

	"redan/api"
	"redan/cookie"
	"redan/frag"
	"redan/hand"
	"redan/pattern"
	"redan/session"
	"redan/wire"
)

// plainPeer is a peer by the chapter's words.
type plainPeer struct {
	addr         string
	ours, theirs uint32

	shake  *hand.Shake // nil: none is under way
	m      int         // how many messages of it were said or read
	came   int         // what came last; -1: none
	flight []wire.Packet
	timer  *session.Timer
	cookie []byte
	began  bool

	session       *session.Session // nil: there is none
	sessionBegan  bool
	sessionHash   []byte
	sessionTheirs uint32
}

// plain is an end by the chapter's words: a list of peers in the order of their numbers, and datagrams byte by byte.
type plain struct {
	c      Config
	buffer *frag.Buffer
	peers  []*plainPeer
	made   uint32
}

// plainNew says P23.1's words of New.
func plainNew(c Config) (*plain, api.Errno) {
	if e := pattern.Check(c.Pattern); e != api.OK {
		return nil, e
	}
	if c.Peers < 0 || c.Load < 0 {
		return nil, api.ErrArg
	}
	return &plain{c: c, buffer: frag.New(c.Frags)}, api.OK
}

// chanceOf are so many bytes of what a call with chance needs, behind those that it had.
func chanceOf(x *sha3.SHAKE, n int) []byte {
	out := make([]byte, n)
	x.Read(out)
	return out
}

// shaken gives the bytes of chance.
func shaken(chance []byte) *sha3.SHAKE {
	x := sha3.NewSHAKE256()
	x.Write(chance)
	return x
}

func (p *plain) of(addr string) *plainPeer {
	for _, x := range p.peers {
		if x.addr == addr {
			return x
		}
	}
	return nil
}

func (p *plain) goes(x *plainPeer) {
	var left []*plainPeer
	for _, y := range p.peers {
		if y != x {
			left = append(left, y)
		}
	}
	p.peers = left
	p.buffer.Drop(x.addr)
}

// keys are the keys of an address.
func (p *plain) keys(addr string) api.Pair {
	for _, k := range p.c.Known {
		if k.Addr == addr {
			return k.Keys
		}
	}
	return api.Pair{}
}

func (p *plain) shake(addr string, init bool) (*hand.Shake, api.Errno) {
	return hand.New(p.c.Pattern, init, p.c.Prologue, p.c.Own, p.keys(addr), p.c.Psk)
}

// there is the peer of an address, a new one if there was none; its handshake is this one.
func (p *plain) there(addr string, s *hand.Shake, began bool) *plainPeer {
	x := p.of(addr)
	if x == nil {
		p.made++
		x = &plainPeer{addr: addr, ours: p.made}
		p.peers = append(p.peers, x)
	}
	x.shake, x.m, x.began, x.came, x.flight, x.timer, x.cookie, x.theirs = s, 0, began, -1, nil, nil, make([]byte, 16), 0
	return x
}

// behind says the words of what is behind a message; it tells whether there is a session that begins by it.
func (p *plain) behind(x *plainPeer, now uint64) bool {
	x.m++
	if !x.shake.Done() {
		return false
	}
	send, receive, _ := x.shake.Split()
	x.session = session.New(send, receive, p.c.Rules, now)
	x.sessionBegan, x.sessionHash, x.sessionTheirs = x.began, x.shake.Hash(), x.theirs
	x.shake = nil
	return true
}

// said says the words of what is said: the flight is this message's, sent; the timer started. Up tells of a session.
func (p *plain) said(x *plainPeer, message []byte, now uint64) (outs []Out, up bool) {
	parts := (len(message) + 1023) / 1024
	x.flight = nil
	for part := range parts {
		body := message[1024*part : min(1024*part+1024, len(message))]
		x.flight = append(x.flight, wire.Packet{Kind: wire.Fragment, From: x.ours, To: x.theirs, Msg: x.m, Part: part, Parts: parts, Body: body})
	}
	x.timer = session.Start(p.c.Rules, now)
	return x.sent(), p.behind(x, now)
}

// sent is the flight that is sent.
func (x *plainPeer) sent() []Out {
	var outs []Out
	for _, f := range x.flight {
		ahead := []byte{1}
		ahead = binary.LittleEndian.AppendUint32(ahead, f.From)
		ahead = binary.LittleEndian.AppendUint32(ahead, f.To)
		ahead = append(ahead, byte(f.Msg), byte(f.Part), byte(f.Parts))
		mac := cookie.Sign(x.cookie, append(bytes.Clone(ahead), f.Body...))
		outs = append(outs, Out{Addr: x.addr, Bytes: bytes.Join([][]byte{ahead, mac, f.Body}, nil)})
	}
	return outs
}

// begun says P23.2's words of what is behind ErrState and ErrFull.
func (p *plain) begun(addr string, chance *sha3.SHAKE, now uint64) ([]Out, api.Errno) {
	s, e := p.shake(addr, true)
	if e != api.OK {
		return nil, e
	}
	message, e := s.Write(nil, chanceOf(chance, s.Need()))
	if e != api.OK {
		return nil, e
	}
	outs, _ := p.said(p.there(addr, s, true), message, now)
	return outs, api.OK
}

// open says P23.2's words.
func (p *plain) open(addr string, chance []byte, now uint64) ([]Out, api.Errno) {
	x := p.of(addr)
	if x != nil && x.shake != nil {
		return nil, api.ErrState
	}
	if x == nil && len(p.peers) >= p.c.Peers {
		return nil, api.ErrFull
	}
	return p.begun(addr, shaken(chance), now)
}

// send says P23.3's words, of a kind.
func (p *plain) send(kind byte, addr string, data []byte, now uint64) ([]Out, api.Errno) {
	x := p.of(addr)
	if x == nil {
		return nil, api.ErrPeer
	}
	if x.session == nil {
		return nil, api.ErrClosed
	}
	if len(data) > 1171 {
		return nil, api.ErrLong
	}
	n, box, e := x.session.Seal(data, now)
	if e != api.OK {
		return nil, e
	}
	b := binary.LittleEndian.AppendUint32([]byte{kind}, x.sessionTheirs)
	b = binary.LittleEndian.AppendUint64(b, n)
	return []Out{{addr, append(b, box...)}}, api.OK
}

// handle says P23.4's words; read tells whether, with an error, something was read.
func (p *plain) handle(addr string, datagram, chance []byte, now uint64) (v Event, e api.Errno, read bool) {
	g, e := wire.Get(datagram)
	if e != api.OK {
		return Event{}, e, false
	}
	switch g.Kind {
	case wire.Cookie:
		x := p.of(addr)
		if x == nil || x.shake == nil || !x.began || x.came >= 0 || g.To != x.ours {
			return Event{}, api.ErrState, false
		}
		x.cookie = g.Mac
		return Event{Outs: x.sent()}, api.OK, false
	case wire.Fragment:
		return p.fragment(addr, g, chance, now)
	}
	x := p.of(addr)
	if x == nil {
		return Event{}, api.ErrPeer, false
	}
	if x.session == nil || g.To != x.ours {
		return Event{}, api.ErrClosed, false
	}
	data, e := x.session.Open(g.Counter, g.Body, now)
	if e != api.OK {
		return Event{}, e, false
	}
	if x.shake == nil {
		x.flight = nil
	}
	if g.Kind == wire.Data {
		v = Event{Data: data, Got: true}
	}
	return v, api.OK, false
}

// shakes is how many peers have a handshake.
func (p *plain) shakes() int {
	n := 0
	for _, x := range p.peers {
		if x.shake != nil {
			n++
		}
	}
	return n
}

// fragment says P23.4's words of Fragment.
func (p *plain) fragment(addr string, g wire.Packet, chance []byte, now uint64) (v Event, e api.Errno, read bool) {
	if g.Msg == 0 && p.shakes() >= p.c.Load {
		if !cookie.Valid(p.c.Secret, now, p.c.Period, addr, wire.Signed(g), g.Mac) {
			b := binary.LittleEndian.AppendUint32([]byte{2}, g.From)
			b = append(b, cookie.Make(p.c.Secret, cookie.Epoch(now, p.c.Period), addr)...)
			return Event{Outs: []Out{{addr, b}}}, api.ErrCookie, false
		}
	}
	x := p.of(addr)
	first := false
	if x != nil && x.shake != nil {
		first = !x.shake.Turn() && g.Msg == x.m
	} else if g.Msg == 0 {
		first = x == nil || x.came != 0 || len(x.flight) == 0
	}
	if first {
		return p.first(addr, g, chance, now)
	}
	if x == nil || x.came != g.Msg {
		return Event{}, api.ErrState, false
	}
	if g.Part == 0 && len(x.flight) > 0 && x.flight[0].Msg > g.Msg {
		v.Outs = x.sent()
	}
	return v, api.OK, false
}

// first says the words of Fragment's first line.
func (p *plain) first(addr string, g wire.Packet, chance []byte, now uint64) (v Event, e api.Errno, read bool) {
	x := p.of(addr)
	if x == nil && len(p.peers) >= p.c.Peers {
		return Event{}, api.ErrFull, false
	}
	message, e := p.buffer.Add(addr, g.Msg, g.Part, g.Parts, g.Body, now)
	if e != api.OK || message == nil {
		return Event{}, e, false
	}
	if x == nil || x.shake == nil {
		s, e := p.shake(addr, false)
		if e != api.OK {
			return Event{}, e, false
		}
		if _, e = s.Read(message); e != api.OK {
			return Event{}, e, false
		}
		x = p.there(addr, s, false)
	} else if _, e := x.shake.Read(message); e != api.OK {
		return Event{}, e, false
	}
	x.theirs, x.came = g.From, g.Msg
	v.Up = p.behind(x, now)
	if x.shake != nil && x.shake.Turn() {
		message, e := x.shake.Write(nil, chanceOf(shaken(chance), x.shake.Need()))
		if e != api.OK {
			return Event{}, e, true
		}
		v.Outs, v.Up = p.said(x, message, now)
	}
	return v, api.OK, true
}

// tick says P23.5's words.
func (p *plain) tick(chance []byte, now uint64) (outs []Out) {
	p.buffer.Expire(now)
	bytes := shaken(chance)
	for _, x := range append([]*plainPeer(nil), p.peers...) {
		if x.shake != nil {
			if !x.timer.Due(now) {
				continue
			}
			if x.timer.Again(now) {
				outs = append(outs, x.sent()...)
				continue
			}
			x.shake, x.flight = nil, nil
			if x.session == nil {
				p.goes(x)
			}
			continue
		}
		if x.session == nil {
			continue
		}
		if x.session.Expired(now) {
			p.goes(x)
			continue
		}
		if x.session.Rekey(now) {
			x.flight = nil
			if x.sessionBegan {
				more, _ := p.begun(x.addr, bytes, now)
				outs = append(outs, more...)
			}
		}
	}
	return outs
}

// close says P23.5's words of Close.
func (p *plain) close(addr string) api.Errno {
	x := p.of(addr)
	if x == nil {
		return api.ErrPeer
	}
	p.goes(x)
	return api.OK
}
