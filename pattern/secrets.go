package pattern

import "slices"

// saying is a token of a pattern, and whether the initiator says it.
type saying struct {
	init  bool
	token Token
}

// ofCurve tells whether it is a secret of the curve.
func (s saying) ofCurve() bool {
	switch s.token {
	case EE, ES, SE, SS:
		return true
	}
	return false
}

// ofKem tells whether it is a secret of the KEM.
func (s saying) ofKem() bool { return s.token == Ekem || s.token == Skem }

// ofBoth tells whether it is the secret that both sides share beforehand.
func (s saying) ofBoth() bool { return s.token == Psk }

// isSecret tells whether it is a secret of any kind; what is none is a key of the side that says it.
func (s saying) isSecret() bool { return s.ofCurve() || s.ofKem() || s.ofBoth() }

// key is the key that the side which says it has from then on.
func (s saying) key() Key { return Key{s.init, s.token} }

// guards are the keys of which any one tells the secret; nothing, if it is none.
func (s saying) guards() []Key {
	switch s.token {
	case EE:
		return []Key{{true, E}, {false, E}}
	case ES:
		return []Key{{true, E}, {false, S}}
	case SE:
		return []Key{{true, S}, {false, E}}
	case SS:
		return []Key{{true, S}, {false, S}}
	case Ekem:
		return []Key{{!s.init, E1}}
	case Skem:
		return []Key{{!s.init, S}}
	case Psk:
		return []Key{{false, Psk}}
	}
	return nil
}

// repeats tells whether two are one secret that may be there once at most. Each side may say the KEM's: they are
// of the other one's keys, so two sides' are not the same.
func (s saying) repeats(other saying) bool {
	return s.token == other.token && (s.init == other.init || !s.ofKem())
}

// sayings are a pattern's tokens, in order.
func sayings(p Pattern) []saying {
	var out []saying
	for _, m := range p.Messages {
		for _, t := range m.Tokens {
			out = append(out, saying{m.Init, t})
		}
	}
	return out
}

// secretsOf are the secrets of a pattern that are of what is asked for, in order; none, unless it may be written.
func secretsOf(p Pattern, asked func(saying) bool) []saying {
	if !writable(p) {
		return nil
	}
	var out []saying
	for _, s := range sayings(p) {
		if asked(s) {
			out = append(out, s)
		}
	}
	return out
}

// course is how far a pattern has been gone through: the keys that the sides have by then, and the secrets.
type course struct {
	keys    []Key
	secrets []saying
}

// begun is a pattern's course ahead of its first token.
func begun(p Pattern) *course {
	c := &course{}
	for _, s := range [...]saying{{true, S}, {false, S}} {
		if p.Known[sideOf(s.init)] {
			c.add(s)
		}
	}
	return c
}

// add goes on with a token.
func (c *course) add(s saying) {
	if s.isSecret() {
		c.secrets = append(c.secrets, s)
		return
	}
	c.keys = append(c.keys, s.key())
}

// lacks tells whether a key's side hasn't it.
func (c *course) lacks(key Key) bool { return !slices.Contains(c.keys, key) }

// takes tells whether a token may be said next.
func (c *course) takes(s saying) bool {
	if !s.isSecret() {
		return c.lacks(s.key())
	}
	if slices.ContainsFunc(c.secrets, s.repeats) {
		return false
	}
	if s.ofBoth() {
		return !c.lacks(Key{s.init, E}) || !c.lacks(Key{s.init, E1})
	}
	// The keys that a secret of the other kinds is made of are just those that tell it.
	return !slices.ContainsFunc(s.guards(), c.lacks)
}

// inOrder tells whether each token may be said where it stands.
func inOrder(p Pattern) bool {
	c := begun(p)
	for _, s := range sayings(p) {
		if !c.takes(s) {
			return false
		}
		c.add(s)
	}
	return true
}

// Hybrid tells whether a pattern has a secret of the curve and one of the KEM.
func Hybrid(p Pattern) bool {
	return len(secretsOf(p, saying.ofCurve)) > 0 && len(secretsOf(p, saying.ofKem)) > 0
}

// Guards are, for each secret of a pattern, in order, the keys that must stay unknown.
func Guards(p Pattern) [][]Key {
	var out [][]Key
	for _, s := range secretsOf(p, saying.isSecret) {
		out = append(out, s.guards())
	}
	return out
}

// solvedKinds ask whether a secret is of what is solved: it is, if one of them answers yes.
func solvedKinds(curve, kem bool) []func(saying) bool {
	var out []func(saying) bool
	if curve {
		out = append(out, saying.ofCurve)
	}
	if kem {
		out = append(out, saying.ofKem)
	}
	return out
}

// Derivable tells whether one who knows some keys, and perhaps solves all of the curve, or of the KEM, knows all secrets.
func Derivable(p Pattern, curve, kem bool, known []Key) bool {
	if !writable(p) {
		return false
	}
	kinds := solvedKinds(curve, kem)
	for _, s := range secretsOf(p, saying.isSecret) {
		solved := slices.ContainsFunc(kinds, func(of func(saying) bool) bool { return of(s) })
		told := slices.ContainsFunc(s.guards(), func(k Key) bool { return slices.Contains(known, k) })
		if !solved && !told {
			return false
		}
	}
	return true
}
