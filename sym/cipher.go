package sym

import (
	"redan/aead"
	"redan/api"
	"redan/words"
)

// The nonce's bytes behind the first four are those of a number.
const (
	gapSize    = 4
	numberSize = 8
)

// rekeyNumber is kept for Rekey: no text is sealed with it.
const rekeyNumber = 1<<64 - 1

// Cipher is a key, and how often it was used.
type Cipher struct {
	Key []byte
	N   uint64
}

// Seal is a text, sealed; without a key it is as it is.
func (c *Cipher) Seal(ad, text []byte) ([]byte, api.Errno) { return c.take(step.seal, ad, text) }

// Open is the text of what was sealed.
func (c *Cipher) Open(ad, sealed []byte) ([]byte, api.Errno) { return c.take(step.open, ad, sealed) }

// Rekey makes another key of it.
func (c *Cipher) Rekey() {
	if c == nil {
		return
	}
	// No key, and one that may not be, are refused: there is nothing to make another one of.
	sealed, e := c.with(rekeyNumber, nil).seal(make([]byte, api.KeySize))
	if e != api.OK {
		return
	}
	// Whoever handed the old key in may still have it: it is left as it is, and the new one lies elsewhere.
	c.Key = words.Join(sealed[:api.KeySize])
}

// take does one step with the next number, which is used up if there is no error.
func (c *Cipher) take(does func(step, []byte) ([]byte, api.Errno), ad, b []byte) ([]byte, api.Errno) {
	if c == nil {
		return nil, api.ErrArg
	}
	if len(c.Key) == 0 {
		return words.Join(b), api.OK
	}
	if len(c.Key) != api.KeySize {
		return nil, api.ErrArg
	}
	if c.N == rekeyNumber {
		return nil, api.ErrNonce
	}
	out, e := does(c.with(c.N, ad), b)
	if e != api.OK {
		return nil, e
	}
	c.N++
	return out, api.OK
}

// with is the step with a number.
func (c *Cipher) with(number uint64, ad []byte) step { return step{c.Key, nonceOf(number), ad} }

// step is all that sealing one text and opening it must have in common.
type step struct {
	key, nonce, ad []byte
}

// seal is a text, sealed.
func (s step) seal(text []byte) ([]byte, api.Errno) { return aead.Seal(s.key, s.nonce, s.ad, text) }

// open is the text of what was sealed.
func (s step) open(sealed []byte) ([]byte, api.Errno) {
	return aead.Open(s.key, s.nonce, s.ad, sealed)
}

// nonceOf is a number's nonce.
func nonceOf(number uint64) []byte {
	return words.Join(make([]byte, gapSize), words.Store(number, numberSize))
}
