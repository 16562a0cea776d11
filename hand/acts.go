package hand

import (
	"redan/api"
	"redan/curve"
	"redan/kem"
	"redan/words"
)

// writing are the acts of who writes a message: what goes over is made, of the own keys and of chance, and put
// behind what is there. Whoever calls has seen that there is as much chance as the tokens take.
func (s *Shake) writing(payload, chance []byte) acts {
	var message []byte
	put := func(b []byte) { message = append(message, b...) }
	putSealed := func(text []byte) api.Errno {
		sealed, e := s.state.Seal(text)
		put(sealed)
		return e
	}
	draw := func() []byte {
		b := words.Join(chance[:api.KeySize])
		chance = chance[api.KeySize:]
		return b
	}
	return acts{
		curveKey: func() ([]byte, api.Errno) {
			priv := draw()
			pub, e := curve.Public(priv)
			s.own.made.Priv, s.own.made.Pub = priv, pub
			put(pub)
			return pub, e
		},
		kemKey: func() ([]byte, api.Errno) {
			ek, dk, e := kem.Gen(draw(), draw())
			s.own.made.Dk, s.own.made.Ek = dk, ek
			put(ek)
			return ek, e
		},
		pair: func() api.Errno { return putSealed(said(s.own.long)) },
		ekem: func() ([]byte, []byte, api.Errno) {
			secret, box, e := kem.Encaps(s.other.made.Ek, draw())
			put(box)
			return box, secret, e
		},
		skem: func() ([]byte, api.Errno) {
			secret, box, e := kem.Encaps(s.other.long.Ek, draw())
			if e != api.OK {
				return nil, e
			}
			return secret, putSealed(box)
		},
		payload: func() ([]byte, api.Errno) {
			e := putSealed(payload)
			return message, e
		},
	}
}

// reading are the acts of who reads a message: what came over is taken from what is left of it.
func (s *Shake) reading(message []byte) acts {
	take := func(size int) ([]byte, api.Errno) {
		if len(message) < size {
			return nil, api.ErrShort
		}
		b := words.Join(message[:size])
		message = message[size:]
		return b, api.OK
	}
	takeSealed := func(size int) ([]byte, api.Errno) {
		if len(s.state.C.Key) > 0 {
			size += api.TagSize
		}
		sealed, e := take(size)
		if e != api.OK {
			return nil, e
		}
		return s.state.Open(sealed)
	}
	return acts{
		curveKey: func() ([]byte, api.Errno) {
			pub, e := take(api.KeySize)
			s.other.made.Pub = pub
			return pub, e
		},
		kemKey: func() ([]byte, api.Errno) {
			ek, e := take(api.EkSize)
			if e != api.OK {
				return nil, e
			}
			s.other.made.Ek = ek
			return ek, kem.Check(ek)
		},
		pair: func() api.Errno {
			b, e := takeSealed(api.KeySize + api.EkSize)
			if e != api.OK {
				return e
			}
			s.other.long = heard(b)
			return kem.Check(s.other.long.Ek)
		},
		ekem: func() ([]byte, []byte, api.Errno) {
			box, e := take(api.CtSize)
			if e != api.OK {
				return nil, nil, e
			}
			secret, e := kem.Decaps(s.own.made.Dk, box)
			return box, secret, e
		},
		skem: func() ([]byte, api.Errno) {
			box, e := takeSealed(api.CtSize)
			if e != api.OK {
				return nil, e
			}
			return kem.Decaps(s.own.long.Dk, box)
		},
		payload: func() ([]byte, api.Errno) { return s.state.Open(message) },
	}
}
