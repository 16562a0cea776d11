package tunnel

import (
	"cmp"
	"slices"

	"redan/sponge"
)

// Tick does what time asks for.
func (t *Tunnel) Tick(chance []byte, now uint64) []Out {
	if t == nil {
		return nil
	}
	t.buffer.Expire(now)
	draw := sponge.Shake256(chance).Read
	var outs []Out
	for _, p := range t.byNumber() {
		if p.shake != nil {
			outs = append(outs, t.tickShake(p, now)...)
		} else {
			outs = append(outs, t.tickLink(p, draw, now)...)
		}
	}
	return outs
}

// byNumber are the peers in the order in which they were made.
func (t *Tunnel) byNumber() []*peer {
	var list []*peer
	for _, p := range t.peers {
		list = append(list, p)
	}
	slices.SortFunc(list, func(x, y *peer) int { return cmp.Compare(x.number, y.number) })
	return list
}

// tickShake says a handshake's message again, or gives the handshake up.
func (t *Tunnel) tickShake(p *peer, now uint64) []Out {
	if !p.timer.Due(now) {
		return nil
	}
	if p.timer.Again(now) {
		return p.sendFlight()
	}
	p.shake, p.flight = nil, nil
	if p.link == nil {
		t.remove(p.addr)
	}
	return nil
}

// tickLink lets a peer go whose session is over, or sees to it that there are other keys in time.
func (t *Tunnel) tickLink(p *peer, draw func(int) []byte, now uint64) []Out {
	if p.link == nil {
		return nil
	}
	if p.link.session.Expired(now) {
		t.remove(p.addr)
		return nil
	}
	if !p.link.session.Rekey(now) {
		return nil
	}
	p.flight = nil
	if !p.link.began {
		return nil
	}
	outs, _ := t.open(p.addr, draw, now)
	return outs
}
