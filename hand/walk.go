package hand

import (
	"slices"

	"redan/api"
	"redan/curve"
	"redan/pattern"
)

// messagesOf are a pattern's messages, in new memory.
func messagesOf(p pattern.Pattern) []pattern.Message {
	var out []pattern.Message
	for _, m := range p.Messages {
		out = append(out, pattern.Message{Init: m.Init, Tokens: slices.Clone(m.Tokens)})
	}
	return out
}

// isKnown tells whether a side's long-lived key is known beforehand.
func isKnown(p pattern.Pattern, init bool) bool {
	if init {
		return p.Known[0]
	}
	return p.Known[1]
}

// says tells whether a side says a token.
func says(p pattern.Pattern, init bool, t pattern.Token) bool {
	for _, m := range p.Messages {
		if m.Init == init && slices.Contains(m.Tokens, t) {
			return true
		}
	}
	return false
}

// chanceOf is how many bytes of chance a token takes.
func chanceOf(t pattern.Token) int {
	switch t {
	case pattern.E, pattern.Ekem, pattern.Skem:
		return api.KeySize
	case pattern.E1:
		return api.SeedSize
	}
	return 0
}

// acts are what tokens do to a message's bytes: who writes it makes them, who reads it takes them. All else, in
// what order they go and what is mixed of them, is the walk's, and one for both sides: so they can't part ways.
type acts struct {
	curveKey func() ([]byte, api.Errno)               // of e: the key that goes over
	kemKey   func() ([]byte, api.Errno)               // of e1: the key that goes over
	pair     func() api.Errno                         // of s
	ekem     func() (box, secret []byte, e api.Errno) // what goes over, and what is sealed in it
	skem     func() (secret []byte, e api.Errno)
	payload  func() ([]byte, api.Errno) // behind all tokens; what there is to tell in the end
}

// walk goes through the next message, and tells what its payload's act does.
func (s *Shake) walk(a acts) ([]byte, api.Errno) {
	for _, t := range s.messages[0].Tokens {
		if e := s.token(t, a); e != api.OK {
			return nil, e
		}
	}
	s.messages = s.messages[1:]
	return a.payload()
}

// token goes through one token.
func (s *Shake) token(t pattern.Token, a acts) api.Errno {
	switch t {
	case pattern.E:
		return s.mixHash(a.curveKey())
	case pattern.E1:
		return s.mixHash(a.kemKey())
	case pattern.S:
		return a.pair()
	case pattern.Psk:
		s.state.MixBoth(s.psk)
		return api.OK
	case pattern.Ekem:
		box, secret, e := a.ekem()
		if e != api.OK {
			return e
		}
		s.state.MixHash(box)
		return s.mixKey(secret, api.OK)
	case pattern.Skem:
		return s.mixKey(a.skem())
	}
	return s.mixKey(s.curveSecret(t))
}

// mixHash mixes what an act told into the sum, unless it told an error.
func (s *Shake) mixHash(b []byte, e api.Errno) api.Errno {
	if e == api.OK {
		s.state.MixHash(b)
	}
	return e
}

// mixKey mixes a secret as a key, unless there was an error.
func (s *Shake) mixKey(secret []byte, e api.Errno) api.Errno {
	if e == api.OK {
		s.state.MixKey(secret)
	}
	return e
}

// curveSecret is the secret of ee, es, se or ss. Their first letter is the initiator's key, whoever says them.
func (s *Shake) curveSecret(t pattern.Token) ([]byte, api.Errno) {
	own, other := t == pattern.SE || t == pattern.SS, t == pattern.ES || t == pattern.SS
	if !s.init {
		own, other = other, own
	}
	return curve.Shared(s.own.pair(own).Priv, s.other.pair(other).Pub)
}
