package hand

import (
	"bytes"
	"testing"

	"redan/api"
	"redan/pattern"
)

// P17.3: payloads of 0 to 32768 bytes go over, in each message of each pattern.
func TestPayloads(t *testing.T) {
	for _, name := range []string{"NN", "XX", "Plain", "Psk"} {
		var p pattern.Pattern
		for _, q := range patterns(t) {
			if q.Name == name {
				p = q
			}
		}
		for _, size := range []int{0, 1, 16, 1000, 32767, 32768} {
			x := begun(t, p, nil)
			for !x.over() {
				writer, reader := x.next()
				payload, chance, at := mess("payload", size), x.chance(), x.w.at
				want, _ := x.w.say(t, payload, chance, nil)
				message, e := writer.Write(payload, chance)
				answers(t, message, e, want, "Write", p.Name, at, size)
				got, e := reader.Read(message)
				answers(t, got, e, payload, "Read", p.Name, at, size)
			}
			x.finish(t)
		}
	}
}

// P17.3: payloads that are too long, and other chance than the message takes, are refused; what is written then is as
// if they had not been.
func TestWriteRefuses(t *testing.T) {
	for _, p := range patterns(t) {
		x := begun(t, p, nil)
		for !x.over() {
			writer, reader := x.next()
			n, at := x.w.need(), x.w.at
			for _, size := range []int{32769, 32770, 65536, 65537} {
				refusesToWrite(t, writer, mess("payload", size), x.chance(), api.ErrLong, "too long", p.Name, at, size)
				refusesToWrite(t, writer, mess("payload", size), nil, api.ErrLong, "too long, no chance", p.Name, at, size)
				refusesToWrite(t, writer, mess("payload", size), mess("chance", n+1), api.ErrLong, "too long, much chance", p.Name, at, size)
			}
			for _, size := range []int{0, n - 1, n - 32, n + 1, n + 32, 2 * n, 65536} {
				if size != n && size >= 0 {
					refusesToWrite(t, writer, x.payload(), mess("chance", size), api.ErrArg, "chance", p.Name, at, size)
					refusesToWrite(t, writer, mess("payload", 32768), mess("chance", size), api.ErrArg, "chance", p.Name, at, size)
				}
			}
			for _, size := range []int{0, n, n + 1} {
				refusesToWrite(t, reader, nil, mess("chance", size), api.ErrState, "not this one's turn", p.Name, at, size)
				refusesToWrite(t, reader, mess("payload", 32769), mess("chance", size), api.ErrState, "not this one's turn, too long", p.Name, at, size)
			}
			x.pass(t)
		}
		for i, s := range x.sides {
			refusesToWrite(t, s, nil, nil, api.ErrState, "at the end", p.Name, i)
			refusesToWrite(t, s, mess("payload", 32769), mess("chance", 32), api.ErrState, "at the end", p.Name, i)
		}
		x.finish(t)
	}
}

// P17.3: a message that was written is not written again: it is the other side's turn then.
func TestWriteTwice(t *testing.T) {
	x := begun(t, given(t, "NN"), nil)
	if _, e := x.sides[0].Write(nil, x.chance()); e != api.OK {
		t.Fatalf("Write: error %d", int(e))
	}
	refusesToWrite(t, x.sides[0], nil, x.chance(), api.ErrState, "twice")
	refusesToWrite(t, x.sides[0], nil, nil, api.ErrState, "twice, without chance")
}

// P17.3: each 32 bytes of chance go to their token, and to no other part of the message: with others the token's bytes
// are others.
func TestChance(t *testing.T) {
	for _, p := range patterns(t) {
		x := begun(t, p, nil)
		for !x.over() {
			writer, _ := x.next()
			_, parts := x.w.copied().say(t, nil, x.chance(), nil)
			first, e := twin(writer).Write(nil, x.chance())
			if e != api.OK {
				t.Fatalf("Write: error %d", int(e))
			}
			at := 0
			for _, part := range parts {
				size := map[pattern.Token]int{pattern.E: 32, pattern.Ekem: 32, pattern.Skem: 32, pattern.E1: 32}[part.token]
				if size > 0 {
					// e's bytes 0 and 31 are clamped; of e1's 64 bytes the first 32 make the public key.
					other := turned(x.chance(), at+1, 64)
					message, e := twin(writer).Write(nil, other)
					if e != api.OK || bytes.Equal(message[part.from:part.to], first[part.from:part.to]) || !bytes.Equal(message[:part.from], first[:part.from]) {
						t.Fatalf("%s, message %d: chance at %d is not that of token %d", p.Name, x.w.at, at, part.token)
					}
				}
				at += size
				if part.token == pattern.E1 {
					at += 32
				}
			}
			x.pass(t)
		}
	}
}

// smallOrder are points whose secrets are nought with every key.
func smallOrder() [][]byte {
	one := make([]byte, 32)
	one[0] = 1
	minus := bytes.Repeat([]byte{255}, 32)
	minus[0], minus[31] = 236, 127
	prime := bytes.Repeat([]byte{255}, 32)
	prime[0], prime[31] = 237, 127
	high := make([]byte, 32)
	high[31] = 128
	return [][]byte{make([]byte, 32), one, minus, prime, high}
}

// P17.3: a secret that is nought is refused by who writes, however much was made ahead of it, and nothing changes: of
// keys that came in a message.
func TestWriteOfNoughts(t *testing.T) {
	for i, point := range smallOrder() {
		alter := func(token pattern.Token, b []byte) []byte {
			switch token {
			case pattern.E:
				return point
			case pattern.S:
				return join(point, b[32:])
			}
			return b
		}
		for _, text := range []string{
			"A:\n-> e, e1\n<- ekem, e, ee\n", "B:\n-> e\n<- e, ee\n", "C:\n-> s\n<- e, se, s, skem\n", "D:\n-> s\n<- skem, s, ss\n",
			"E:\n-> e\n<- e, s, psk, es\n",
		} {
			x := begun(t, parsed(t, text), nil)
			message, _ := x.w.say(t, nil, x.chance(), alter)
			if _, e := x.sides[1].Read(message); e != api.OK {
				t.Fatalf("Read of %s: error %d", text, int(e))
			}
			chance := x.chance()
			for range 2 {
				refusesToWrite(t, x.sides[1], []byte("text"), chance, api.ErrZero, "a secret of noughts", text, i)
			}
			refusesToWrite(t, x.sides[1], mess("payload", 32769), chance, api.ErrLong, "too long, and a secret of noughts", text, i)
			refusesToWrite(t, x.sides[1], nil, chance[1:], api.ErrArg, "chance, and a secret of noughts", text, i)
		}
	}
}

// P17.3: likewise of keys that are known beforehand: New takes them.
func TestWriteOfKnownNoughts(t *testing.T) {
	own, other := someone(t, "a").whole(t), someone(t, "b").public()
	for i, point := range smallOrder() {
		other.Pub = point
		for _, name := range []string{"IK", "KK", "NK"} {
			s, e := New(given(t, name), true, nil, own, other, nil)
			if e != api.OK {
				t.Fatalf("New of %s: error %d", name, int(e))
			}
			refusesToWrite(t, s, nil, mess("chance", 128), api.ErrZero, "a key known beforehand", name, i)
			if !s.Turn() || s.Need() != 128 {
				t.Errorf("%s: Turn %v, Need %d behind an error", name, s.Turn(), s.Need())
			}
		}
	}
}

// P17.3, P17.4: a cipher whose numbers are used up is refused, by who writes and by who reads, and nothing changes. No
// pattern is long enough for it, so the numbers are set.
func TestNumbersUsedUp(t *testing.T) {
	const last = 1<<64 - 1
	x := begun(t, parsed(t, "X:\n-> e, psk\n<- s\n"), nil)
	x.pass(t)
	writer, reader := x.next()
	message, _ := x.w.copied().say(t, nil, nil, nil)
	for _, n := range []uint64{last, last - 1} {
		w, r := twin(writer), twin(reader)
		w.state.C.N, r.state.C.N = n, n
		refusesToWrite(t, w, []byte("text"), nil, api.ErrNonce, "numbers used up", last-n)
		if n == last {
			refusesToRead(t, r, message, api.ErrNonce, "numbers used up", last-n)
			continue
		}
		// The pair is sealed with the last number, and there is none for the payload.
		sealed, e := twin(w).state.Seal(said(x.responder.public()))
		if e != api.OK {
			t.Fatalf("Seal: error %d", int(e))
		}
		refusesToRead(t, r, append(sealed, make([]byte, 16)...), api.ErrNonce, "numbers used up", last-n)
	}
	x.finish(t)
}
