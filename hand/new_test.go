package hand

import (
	"bytes"
	"testing"

	"redan/api"
	"redan/kem"
	"redan/pattern"
)

// isNew fails unless New answers that, with a handshake where there is no error, and with none where there is one.
func isNew(t *testing.T, p pattern.Pattern, init bool, own, other api.Pair, psk []byte, want api.Errno, name string, of ...any) {
	t.Helper()
	s, e := New(p, init, []byte("prologue"), own, other, psk)
	if e != want || (s != nil) != (want == api.OK) {
		t.Fatalf("New of %s, initiator %v, %s %v: error %d, handshake %v, want %d", p.Name, init, name, of, int(e), s != nil, int(want))
	}
}

// asked is what the given patterns ask for, by the initiator, by the responder.
type asked struct {
	own, other [2]bool
	psk        bool
}

// askedOf says P17.1's words of the given patterns.
func askedOf() map[string]asked {
	yes, no := [2]bool{true, true}, [2]bool{}
	return map[string]asked{
		"IK":    {yes, [2]bool{true, false}, false},
		"KK":    {yes, yes, false},
		"NK":    {[2]bool{false, true}, [2]bool{true, false}, false},
		"NN":    {no, no, false},
		"NNpsk": {no, no, true},
		"XX":    {yes, no, false},
	}
}

// everySide goes through the given patterns and their sides.
func everySide(t *testing.T, do func(p pattern.Pattern, init bool, own, other, psk bool)) {
	t.Helper()
	for name, a := range askedOf() {
		for i, init := range []bool{true, false} {
			do(given(t, name), init, a.own[i], a.other[i], a.psk)
		}
	}
}

// ifAsked is that error, where it is asked for.
func ifAsked(is bool, e api.Errno) api.Errno {
	if is {
		return e
	}
	return api.OK
}

// badEk is a key of the KEM whose number at that place, of all three polynomials', is 3329.
func badEk(ek []byte, place int) []byte {
	out := bytes.Clone(ek)
	at := place / 2 * 3
	if place%2 == 0 {
		out[at], out[at+1] = 3329&255, out[at+1]&240|3329>>8
	} else {
		out[at+1], out[at+2] = out[at+1]&15|3329&15<<4, 3329>>4
	}
	return out
}

// otherEks are Eks that kem.Check refuses, beside those of other sizes.
func otherEks(ek []byte) [][]byte {
	out := [][]byte{nil, ek[:1183], append(bytes.Clone(ek), 0), ek[:32], bytes.Repeat([]byte{255}, 1184), make([]byte, 2400)}
	for _, place := range []int{0, 1, 255, 256, 511, 512, 767} {
		out = append(out, badEk(ek, place))
	}
	return out
}

// rightSum is a private key with another public key in it, and that one's sum.
func rightSum(dk, ek []byte) []byte { return join(dk[:1152], ek, plainSum(ek), dk[2368:]) }

// notPublic are pairs that are no public ones.
func notPublic(p api.Pair) []api.Pair {
	out := []api.Pair{{}, {Priv: p.Priv, Dk: p.Dk}}
	for _, pub := range [][]byte{nil, p.Pub[:31], append(bytes.Clone(p.Pub), 0), p.Pub[:1], p.Ek} {
		out = append(out, api.Pair{Priv: p.Priv, Pub: pub, Dk: p.Dk, Ek: p.Ek})
	}
	for _, ek := range otherEks(p.Ek) {
		out = append(out, api.Pair{Priv: p.Priv, Pub: p.Pub, Dk: p.Dk, Ek: ek})
		if len(ek) == 1184 {
			out = append(out, api.Pair{Priv: p.Priv, Pub: p.Pub, Dk: rightSum(p.Dk, ek), Ek: ek})
		}
	}
	return out
}

// notWhole are public pairs that are no whole ones.
func notWhole(p, q api.Pair) []api.Pair {
	out := []api.Pair{{Pub: p.Pub, Ek: p.Ek}, {Pub: p.Pub, Ek: p.Ek, Priv: p.Priv}, {Pub: p.Pub, Ek: p.Ek, Dk: p.Dk}}
	for _, priv := range [][]byte{nil, p.Priv[:31], append(bytes.Clone(p.Priv), 0), q.Priv, turned(p.Priv, 5, 1), p.Pub} {
		out = append(out, api.Pair{Priv: priv, Pub: p.Pub, Dk: p.Dk, Ek: p.Ek})
	}
	for _, pub := range [][]byte{q.Pub, turned(p.Pub, 31, 128), turned(p.Pub, 0, 1), make([]byte, 32), p.Priv} {
		out = append(out, api.Pair{Priv: p.Priv, Pub: pub, Dk: p.Dk, Ek: p.Ek})
	}
	dks := [][]byte{nil, p.Dk[:2399], append(bytes.Clone(p.Dk), 0), p.Dk[:1152], make([]byte, 2400), q.Dk}
	for _, at := range []int{1152, 1800, 2335, 2336, 2350, 2367} {
		dks = append(dks, turned(p.Dk, at, 16))
	}
	for _, dk := range append(dks, rightSum(p.Dk, turned(p.Ek, 1183, 1)), rightSum(p.Dk, q.Ek)) {
		out = append(out, api.Pair{Priv: p.Priv, Pub: p.Pub, Dk: dk, Ek: p.Ek})
	}
	for _, ek := range [][]byte{q.Ek, turned(p.Ek, 1152, 1), turned(p.Ek, 1183, 128)} {
		out = append(out, api.Pair{Priv: p.Priv, Pub: p.Pub, Dk: p.Dk, Ek: ek})
	}
	return out
}

// P17.1: own pairs that are not whole are refused, where one is asked for, and count for nothing elsewhere.
func TestOwnPairs(t *testing.T) {
	own, other, psk := someone(t, "a").whole(t), someone(t, "b").whole(t), mess("psk", 32)
	for i, p := range notPublic(own) {
		if len(p.Ek) == 1184 && len(p.Pub) == 32 && kem.Check(p.Ek) == api.OK {
			t.Fatalf("pair %d is a public one", i)
		}
	}
	for i, p := range notWhole(own, other) {
		if len(p.Pub) != 32 || kem.Check(p.Ek) != api.OK {
			t.Fatalf("pair %d is no public one", i)
		}
	}
	bad := append(notPublic(own), notWhole(own, other)...)
	everySide(t, func(p pattern.Pattern, init, ownAsked, _, _ bool) {
		for i := range bad {
			isNew(t, p, init, bad[i], other, psk, ifAsked(ownAsked, api.ErrKey), "own pair", i)
		}
		isNew(t, p, init, own, other, psk, api.OK, "whole pair")
	})
}

// P17.1: a pair is whole by the chapter's words alone: other bytes of a private key that make the same public one,
// and what CheckPrivate doesn't look at, are taken.
func TestWholePairs(t *testing.T) {
	own, other := someone(t, "a").whole(t), someone(t, "b").public()
	for _, p := range []api.Pair{
		{Priv: turned(own.Priv, 0, 7), Pub: own.Pub, Dk: own.Dk, Ek: own.Ek},
		{Priv: turned(own.Priv, 31, 192), Pub: own.Pub, Dk: own.Dk, Ek: own.Ek},
		{Priv: own.Priv, Pub: own.Pub, Dk: turned(own.Dk, 0, 1), Ek: own.Ek},
		{Priv: own.Priv, Pub: own.Pub, Dk: turned(own.Dk, 1151, 1), Ek: own.Ek},
		{Priv: own.Priv, Pub: own.Pub, Dk: turned(own.Dk, 2368, 1), Ek: own.Ek},
		{Priv: own.Priv, Pub: own.Pub, Dk: turned(own.Dk, 2399, 1), Ek: own.Ek},
	} {
		isNew(t, given(t, "KK"), true, p, other, nil, api.OK, "whole pair")
		isNew(t, given(t, "XX"), false, p, other, nil, api.OK, "whole pair")
	}
}

// P17.1: other pairs that are not public are refused, where one is asked for, and count for nothing elsewhere; a whole
// one isn't asked for.
func TestOtherPairs(t *testing.T) {
	own, other, psk := someone(t, "a").whole(t), someone(t, "b").whole(t), mess("psk", 32)
	everySide(t, func(p pattern.Pattern, init, _, otherAsked, _ bool) {
		for i, bad := range notPublic(other) {
			isNew(t, p, init, own, bad, psk, ifAsked(otherAsked, api.ErrKey), "other pair", i)
		}
		for i, good := range notWhole(other, own) {
			isNew(t, p, init, own, good, psk, api.OK, "public pair", i)
		}
	})
}

// P17.1: a psk of 32 bytes is asked for by a pattern that has `psk`, whichever side says it; of others any may be.
func TestPsks(t *testing.T) {
	own, other := someone(t, "a").whole(t), someone(t, "b").public()
	sizes := []int{0, 1, 16, 31, 32, 33, 64, 1000}
	everySide(t, func(p pattern.Pattern, init, _, _, pskAsked bool) {
		for _, size := range sizes {
			isNew(t, p, init, own, other, mess("psk", size), ifAsked(pskAsked && size != 32, api.ErrKey), "psk", size)
		}
	})
	for _, text := range []string{"A:\n-> e, psk\n", "B:\n-> e\n<- e1, psk\n", "C:\n-> e\n<- e\n-> psk\n"} {
		for _, init := range []bool{true, false} {
			for _, size := range sizes {
				isNew(t, parsed(t, text), init, api.Pair{}, api.Pair{}, mess("psk", size), ifAsked(size != 32, api.ErrKey), "psk", size)
			}
		}
	}
}

// P17.1: where no pair is asked for, both may be empty; where one is, the other one may.
func TestEmptyPairs(t *testing.T) {
	whole, public, psk := someone(t, "a").whole(t), someone(t, "b").public(), mess("psk", 32)
	everySide(t, func(p pattern.Pattern, init, ownAsked, otherAsked, pskAsked bool) {
		isNew(t, p, init, api.Pair{}, api.Pair{}, nil, ifAsked(ownAsked || otherAsked || pskAsked, api.ErrKey), "nothing")
		isNew(t, p, init, whole, api.Pair{}, psk, ifAsked(otherAsked, api.ErrKey), "an own pair alone")
		isNew(t, p, init, api.Pair{}, public, psk, ifAsked(ownAsked, api.ErrKey), "another one's pair alone")
		isNew(t, p, init, whole, public, nil, ifAsked(pskAsked, api.ErrKey), "no psk")
	})
}

// P17.1: what is asked for hangs on the keys that are known, and on who says `s`, of any pattern.
func TestAskedOfFurther(t *testing.T) {
	whole, public := someone(t, "a").whole(t), someone(t, "b").public()
	for text, a := range map[string]asked{
		"A:\n-> s\n...\n-> e\n":                  {own: [2]bool{true, false}, other: [2]bool{false, true}},
		"B:\n<- s\n...\n-> e\n":                  {own: [2]bool{false, true}, other: [2]bool{true, false}},
		"C:\n-> s\n<- s\n...\n-> e\n":            {own: [2]bool{true, true}, other: [2]bool{true, true}},
		"D:\n-> s\n<- e\n":                       {own: [2]bool{true, false}},
		"E:\n-> e\n<- s\n":                       {own: [2]bool{false, true}},
		"F:\n-> e\n<- e\n-> e1\n<- e1\n-> s\n":   {own: [2]bool{true, false}},
		"G:\n-> s\n...\n-> e\n<- s\n-> ss, es\n": {own: [2]bool{true, true}, other: [2]bool{false, true}},
	} {
		p := parsed(t, text)
		for i, init := range []bool{true, false} {
			isNew(t, p, init, api.Pair{}, api.Pair{}, nil, ifAsked(a.own[i] || a.other[i], api.ErrKey), "nothing")
			isNew(t, p, init, whole, api.Pair{}, nil, ifAsked(a.other[i], api.ErrKey), "an own pair alone")
			isNew(t, p, init, api.Pair{}, public, nil, ifAsked(a.own[i], api.ErrKey), "another one's pair alone")
			isNew(t, p, init, whole, public, nil, api.OK, "both")
		}
	}
}

// P17.1: patterns that Check refuses are refused with its error, ahead of any other.
func TestPatternsThatMayNotBe(t *testing.T) {
	whole, public, psk := someone(t, "a").whole(t), someone(t, "b").public(), mess("psk", 32)
	e := func(init bool, l ...pattern.Token) pattern.Message {
		return pattern.Message{Init: init, Tokens: l}
	}
	refused := map[api.Errno][]pattern.Pattern{
		api.ErrArg: {
			{},
			{Name: "X"},
			{Name: "", Messages: []pattern.Message{e(true, pattern.E)}},
			{Name: "X_", Messages: []pattern.Message{e(true, pattern.E)}},
			{Name: "ThisNameHas33LettersAndDigits1234", Messages: []pattern.Message{e(true, pattern.E)}},
			{Name: "X", Messages: []pattern.Message{e(true)}},
			{Name: "X", Messages: []pattern.Message{e(true, 0)}},
			{Name: "X", Known: [2]bool{true, true}, Messages: []pattern.Message{e(true, pattern.EE, pattern.Psk, 11)}},
		},
		api.ErrRule: {
			{Name: "X", Messages: []pattern.Message{e(true, pattern.EE)}},
			{Name: "X", Messages: []pattern.Message{e(false, pattern.E)}},
			{Name: "X", Messages: []pattern.Message{e(true, pattern.E), e(true, pattern.E1)}},
			{Name: "X", Messages: []pattern.Message{e(true, pattern.Psk)}},
			{Name: "X", Messages: []pattern.Message{e(true, pattern.S, pattern.S)}},
			{Name: "X", Known: [2]bool{true, true}, Messages: []pattern.Message{e(true, pattern.S)}},
			{Name: "X", Messages: []pattern.Message{e(true, pattern.E), e(false, pattern.Ekem)}},
		},
	}
	for want, l := range refused {
		for i, p := range l {
			if got := pattern.Check(p); got != want {
				t.Fatalf("Check of %d: error %d, want %d", i, int(got), int(want))
			}
			for _, init := range []bool{true, false} {
				isNew(t, p, init, whole, public, psk, want, "with all keys", i)
				isNew(t, p, init, api.Pair{}, api.Pair{}, nil, want, "with none", i)
			}
		}
	}
}

// P17.1: prologues of any size, both sides' the same; of nil and of an empty one the same comes.
func TestPrologues(t *testing.T) {
	for _, size := range []int{0, 1, 31, 32, 33, 135, 136, 137, 5000, 1 << 17} {
		x := begun(t, given(t, "KK"), mess("prologue", size))
		x.finish(t)
	}
	var sums [][]byte
	for _, prologue := range [][]byte{nil, {}} {
		x := begun(t, given(t, "NN"), prologue)
		x.finish(t)
		sums = append(sums, x.sides[0].Hash())
	}
	if !bytes.Equal(sums[0], sums[1]) {
		t.Error("a nil prologue is another one than an empty one")
	}
}

// P17.1: what the pattern doesn't ask for changes nothing in what is said.
func TestWhatIsNotAskedFor(t *testing.T) {
	chance := mess("chance", 96)
	var first []byte
	a, b := someone(t, "a").whole(t), someone(t, "b").whole(t)
	for i, pairs := range [][2]api.Pair{{}, {a, b}, {b, a}, {{Pub: []byte{1}}, {Ek: []byte{2}}}} {
		s, e := New(given(t, "NN"), true, nil, pairs[0], pairs[1], mess("psk", 8*i))
		if e != api.OK {
			t.Fatalf("New: error %d", int(e))
		}
		otherIs(t, s, api.Pair{}, "not asked for")
		message, e := s.Write([]byte("text"), chance)
		if i == 0 {
			first = message
		}
		answers(t, message, e, first, "Write", i)
		r, _ := New(given(t, "NN"), false, nil, pairs[1], pairs[0], nil)
		if _, e := r.Read(message); e != api.OK {
			t.Fatalf("Read: error %d", int(e))
		}
		otherIs(t, r, api.Pair{}, "not asked for")
		r.Write(nil, mess("chance", 64))
		if !bytes.Equal(r.state.H, twin(r).Hash()) {
			t.Fatal("no Hash")
		}
	}
}
