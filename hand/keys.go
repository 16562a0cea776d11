package hand

import (
	"redan/api"
	"redan/curve"
	"redan/kem"
	"redan/words"
)

// Of a KEM's private key, these bytes are its public key.
const (
	ekFrom = api.DkSize - 2*api.KeySize - api.EkSize
	ekTo   = ekFrom + api.EkSize
)

// keys are a side's: those that it made for this handshake alone, and its long-lived ones. Of the other side they
// are the public ones, as far as they were said or known.
type keys struct {
	made, long api.Pair
}

// pair is the long-lived one, or the one that was made.
func (k keys) pair(long bool) api.Pair {
	if long {
		return k.long
	}
	return k.made
}

// isPublic tells whether a pair is a public one.
func isPublic(p api.Pair) bool { return len(p.Pub) == api.KeySize && kem.Check(p.Ek) == api.OK }

// isWhole tells whether a pair is a whole one: its public keys are those of its private ones.
func isWhole(p api.Pair) bool {
	pub, e := curve.Public(p.Priv)
	if e != api.OK || !isPublic(p) || kem.CheckPrivate(p.Dk) != api.OK {
		return false
	}
	return words.Equal(pub, p.Pub) && words.Equal(p.Dk[ekFrom:ekTo], p.Ek)
}

// publicOf is a pair's public part, in new memory.
func publicOf(p api.Pair) api.Pair { return api.Pair{Pub: words.Join(p.Pub), Ek: words.Join(p.Ek)} }

// wholeOf is a pair, in new memory.
func wholeOf(p api.Pair) api.Pair {
	out := publicOf(p)
	out.Priv, out.Dk = words.Join(p.Priv), words.Join(p.Dk)
	return out
}

// said is what a side says of its long-lived pair.
func said(p api.Pair) []byte { return words.Join(p.Pub, p.Ek) }

// heard is the pair of which a side said that.
func heard(b []byte) api.Pair {
	return publicOf(api.Pair{Pub: b[:api.KeySize], Ek: b[api.KeySize:]})
}
