package hand

import (
	"bytes"
	"testing"

	"redan/api"
	"redan/pattern"
)

// roomy is a row with more room behind it, in which something stands.
func roomy(b []byte) []byte { return append(bytes.Clone(b), mess("behind", 100)...)[:len(b)] }

// untouched fails if a row, or what stands behind it, isn't as roomy made it.
func untouched(t *testing.T, b, was []byte, name string, of ...any) {
	t.Helper()
	if !bytes.Equal(b, was) || !bytes.Equal(b[:len(b)+100][len(b):], mess("behind", 100)) {
		t.Fatalf("%s %v: what was handed in was changed", name, of)
	}
}

// rows are a pair's.
func rows(p api.Pair) [][]byte { return [][]byte{p.Priv, p.Pub, p.Dk, p.Ek} }

// roomyPair is a pair whose rows are roomy.
func roomyPair(p api.Pair) api.Pair {
	return api.Pair{Priv: roomy(p.Priv), Pub: roomy(p.Pub), Dk: roomy(p.Dk), Ek: roomy(p.Ek)}
}

// P17.1, rule 3: what New is handed is neither changed nor kept.
func TestNewKeepsNothing(t *testing.T) {
	for _, q := range patterns(t) {
		x := begun(t, q, []byte("prologue"))
		for i, init := range []bool{true, false} {
			own, other := x.initiator.whole(t), x.responder.whole(t)
			if !init {
				own, other = other, own
			}
			p := parsed(t, pattern.Text(q))
			prologue, psk, mine, theirs := roomy([]byte("prologue")), roomy(mess("psk", 32)), roomyPair(own), roomyPair(other)
			s, e := New(p, init, prologue, mine, theirs, psk)
			if e != api.OK {
				t.Fatalf("New of %s: error %d", p.Name, int(e))
			}
			untouched(t, prologue, []byte("prologue"), "New: the prologue")
			untouched(t, psk, mess("psk", 32), "New: the psk")
			for k := range 4 {
				untouched(t, rows(mine)[k], rows(own)[k], "New: the own pair", k)
				untouched(t, rows(theirs)[k], rows(other)[k], "New: the other pair", k)
				spoil(rows(mine)[k])
				spoil(rows(theirs)[k])
			}
			if pattern.Text(p) != pattern.Text(q) {
				t.Fatal("New changed the pattern")
			}
			spoil(prologue)
			spoil(psk)
			for k := range p.Messages {
				for l := range p.Messages[k].Tokens {
					p.Messages[k].Tokens[l] = pattern.Psk
				}
				p.Messages[k] = pattern.Message{}
			}
			if !same(s, x.sides[i]) {
				t.Fatalf("New of %s keeps what it was handed", q.Name)
			}
			x.sides[i] = s
		}
		x.finish(t)
	}
}

// P17.1: two handshakes of the same arguments share nothing.
func TestTwoOfOne(t *testing.T) {
	a := begun(t, given(t, "XX"), nil)
	own, other := a.initiator.whole(t), a.responder.public()
	s, _ := New(a.w.p, true, nil, own, other, nil)
	r, _ := New(a.w.p, true, nil, own, other, nil)
	before := twin(r)
	message, _ := s.Write([]byte("text"), mess("chance", 96))
	spoil(message)
	if !same(r, before) {
		t.Error("two handshakes share memory")
	}
}

// P17.3, P17.4, rule 3: what Write and Read are handed is neither changed nor kept, and what they answer is new memory.
func TestMessagesKeepNothing(t *testing.T) {
	for _, p := range patterns(t) {
		x := begun(t, p, nil)
		for !x.over() {
			writer, reader := x.next()
			payload, chance, at := x.payload(), x.chance(), x.w.at
			want, _ := x.w.say(t, payload, chance, nil)
			given, drawn := roomy(payload), roomy(chance)
			message, e := writer.Write(given, drawn)
			answers(t, message, e, want, "Write", p.Name, at)
			untouched(t, given, payload, "Write: the payload", p.Name, at)
			untouched(t, drawn, chance, "Write: the chance", p.Name, at)
			kept := twin(writer)
			spoil(given)
			spoil(drawn)
			answers(t, message, e, want, "Write, what it was handed changed", p.Name, at)
			spoil(message)
			if !same(kept, writer) {
				t.Fatalf("%s, message %d: Write keeps what it was handed or answered", p.Name, at)
			}
			came := roomy(want)
			got, e := reader.Read(came)
			answers(t, got, e, payload, "Read", p.Name, at)
			untouched(t, came, want, "Read: the message", p.Name, at)
			kept = twin(reader)
			spoil(came)
			answers(t, got, e, payload, "Read, what it was handed changed", p.Name, at)
			spoil(got)
			if !same(kept, reader) {
				t.Fatalf("%s, message %d: Read keeps what it was handed or answered", p.Name, at)
			}
		}
		x.finish(t)
	}
}

// Rule 3: nor is what is handed in changed where it is refused.
func TestRefusedIsUntouched(t *testing.T) {
	x := begun(t, given(t, "XX"), nil)
	payload, chance := roomy([]byte("text")), roomy(mess("chance", 95))
	refusesToWrite(t, x.sides[0], payload, chance, api.ErrArg, "chance")
	untouched(t, payload, []byte("text"), "Write")
	untouched(t, chance, mess("chance", 95), "Write")
	x.pass(t)
	want, _ := x.w.copied().say(t, nil, x.chance(), nil)
	for at := range len(want) {
		if at%200 != 0 && at < len(want)-20 {
			continue
		}
		bad := roomy(turned(want, at, 1))
		refusesToRead(t, x.sides[0], bad, api.ErrAuth, "turned", at)
		untouched(t, bad, turned(want, at, 1), "Read", at)
	}
	x.finish(t)
}

// P17.5: what Other, Hash and Split answer is new memory, and no two rows of it share any.
func TestAnswersAreNew(t *testing.T) {
	for _, p := range patterns(t) {
		x := begun(t, p, nil)
		x.passTo(t, len(p.Messages))
		for i, s := range x.sides {
			before := twin(s)
			other := s.Other()
			ek := bytes.Clone(other.Ek)
			spoil(other.Pub)
			if !bytes.Equal(other.Ek, ek) {
				t.Errorf("%s, side %d: Pub and Ek share memory", p.Name, i)
			}
			spoil(other.Ek)
			spoil(s.Hash())
			send, receive, _ := s.Split()
			key := bytes.Clone(receive.Key)
			spoil(send.Key)
			if !bytes.Equal(receive.Key, key) {
				t.Errorf("%s, side %d: two ciphers share memory", p.Name, i)
			}
			spoil(receive.Key)
			send.N, receive.N = 5, 6
			if !same(s, before) {
				t.Errorf("%s, side %d: what was answered is kept", p.Name, i)
			}
		}
		x.finish(t)
	}
}

// Rule 3: one row may be handed in at several places.
func TestOneRowForAll(t *testing.T) {
	b := mess("row", 32)
	p := parsed(t, "X:\n-> e, psk\n")
	s, e := New(p, true, b, api.Pair{}, api.Pair{}, b)
	r, f := New(p, false, b, api.Pair{}, api.Pair{}, b)
	if e != api.OK || f != api.OK {
		t.Fatalf("New: errors %d, %d", int(e), int(f))
	}
	w := plainNew(p, b, plainKeys{}, plainKeys{}, b)
	want, _ := w.say(t, b, b, nil)
	message, e := s.Write(b, b)
	answers(t, message, e, want, "Write")
	got, e := r.Read(message)
	answers(t, got, e, b, "Read")
	if !bytes.Equal(s.Hash(), w.h) || !bytes.Equal(r.Hash(), w.h) {
		t.Error("Hash")
	}
}
