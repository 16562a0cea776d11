package pattern

import (
	"reflect"
	"slices"
	"testing"

	"redan/api"
)

// The keys of both sides.
var (
	initE, initS, initE1 = Key{true, E}, Key{true, S}, Key{true, E1}
	respE, respS, respE1 = Key{false, E}, Key{false, S}, Key{false, E1}
	psk                  = Key{false, Psk}
)

// kinds are the seven secrets, with the keys that guard each of them, said by the initiator and by the responder.
var kinds = []struct {
	token      Token
	curve, kem bool
	byInit     []Key
	byResp     []Key
}{
	{EE, true, false, []Key{initE, respE}, []Key{initE, respE}},
	{ES, true, false, []Key{initE, respS}, []Key{initE, respS}},
	{SE, true, false, []Key{initS, respE}, []Key{initS, respE}},
	{SS, true, false, []Key{initS, respS}, []Key{initS, respS}},
	{Psk, false, false, []Key{psk}, []Key{psk}},
	{Ekem, false, true, []Key{respE1}, []Key{initE1}},
	{Skem, false, true, []Key{respS}, []Key{initS}},
}

// someKeys are all that may guard a secret, and others that guard none.
func someKeys() []Key {
	return []Key{
		initE, initS, initE1, respE, respS, respE1, psk,
		{true, Psk}, {true, EE}, {false, EE}, {true, Ekem}, {false, Ekem}, {true, Skem}, {false, Skem}, {true, 0}, {false, 0}, {true, 11}, {false, -1},
	}
}

// guarded fails unless Guards tells the right keys.
func guarded(t *testing.T, p Pattern, want ...[]Key) {
	t.Helper()
	got := Guards(p)
	if len(got) != len(want) {
		t.Fatalf("Guards of %v: %v, want %v", p, got, want)
	}
	for i := range got {
		if !slices.Equal(got[i], want[i]) {
			t.Fatalf("Guards of %v: %v at place %d, want %v", p, got[i], i, want[i])
		}
	}
}

// P15.3: each kind of secret alone, said by each side, and the keys of it in order; keys are no secrets.
func TestGuardsOfOne(t *testing.T) {
	for _, k := range kinds {
		guarded(t, one(true, k.token), k.byInit)
		guarded(t, one(false, k.token), k.byResp)
	}
	for _, token := range []Token{E, S, E1} {
		guarded(t, one(true, token))
		guarded(t, one(false, token))
	}
}

// P15.3: secrets are in the order in which they are said, as often as they are.
func TestGuards(t *testing.T) {
	guarded(t, parsed(t, "X:\n-> e, e1\n<- ekem, e, ee, psk"), []Key{initE1}, []Key{initE, respE}, []Key{psk})
	guarded(t, parsed(t, "X:\n-> e, s, e1\n<- e, s, e1"))
	guarded(t, parsed(t, "X:\n-> psk, e, psk, s, psk"), []Key{psk}, []Key{psk}, []Key{psk})
	guarded(t, parsed(t, "X:\n<- ss, se\n<- es, ee"), []Key{initS, respS}, []Key{initS, respE}, []Key{initE, respS}, []Key{initE, respE})
	guarded(t, parsed(t, "X:\n-> skem, ekem\n<- skem, ekem"), []Key{respS}, []Key{respE1}, []Key{initS}, []Key{initE1})
	guarded(t, parsed(t, "X:\n-> s\n<- s\n...\n-> e"))
	guarded(t, parsed(t, "X:\n-> s\n<- s\n...\n-> e, ee"), []Key{initE, respE})
	for name, want := range map[string][][]Key{
		"IK":    {{respS}, {initE, respS}, {initS, respS}, {initE1}, {initS}, {initE, respE}, {initS, respE}},
		"KK":    {{respS}, {initE, respS}, {initS, respS}, {initE1}, {initS}, {initE, respE}, {initS, respE}},
		"NK":    {{respS}, {initE, respS}, {initE1}, {initE, respE}},
		"NN":    {{initE1}, {initE, respE}},
		"NNpsk": {{initE1}, {initE, respE}, {psk}},
		"XX":    {{initE1}, {initE, respE}, {initE, respS}, {respS}, {initS, respE}, {initS}},
	} {
		text, _ := Given(name)
		guarded(t, parsed(t, text), want...)
	}
	// As many as there may be.
	all := Guards(many(8, times(12, SE)...))
	if len(all) != 96 || slices.ContainsFunc(all, func(l []Key) bool { return !slices.Equal(l, []Key{initS, respE}) }) {
		t.Errorf("of 96 secrets: %v", all)
	}
}

// P15.3: one secret of the curve and one of the KEM, in any order, of any side; not two of one kind, nor with psk.
func TestHybrid(t *testing.T) {
	for _, a := range kinds {
		for _, init := range []bool{true, false} {
			if Hybrid(one(init, a.token)) || Hybrid(one(init, E, a.token, S, E1)) || Hybrid(one(init, a.token, Psk, a.token)) {
				t.Errorf("token %d alone is hybrid", int(a.token))
			}
		}
		for _, b := range kinds {
			want := a.curve && b.kem || a.kem && b.curve
			for _, p := range []Pattern{
				one(true, a.token, b.token), one(false, a.token, b.token), one(true, Psk, a.token, E, b.token, Psk),
				{"X", [2]bool{}, []Message{{true, []Token{a.token}}, {false, []Token{b.token}}}},
				{"X", [2]bool{true, true}, []Message{{false, []Token{E, a.token}}, {false, []Token{E1}}, {true, []Token{b.token, S}}}},
			} {
				if got := Hybrid(p); got != want {
					t.Errorf("Hybrid of %v: %v", p, got)
				}
			}
		}
	}
	for _, p := range []Pattern{one(true, E), one(true, E, S, E1), one(false, S), many(8, E, E1)} {
		if Hybrid(p) {
			t.Errorf("%v is hybrid", p)
		}
	}
	// All but one of as many as there may be.
	p := many(8, times(12, SS)...)
	if Hybrid(p) {
		t.Errorf("%v is hybrid", p)
	}
	p.Messages[7].Tokens[11] = Skem
	if !Hybrid(p) {
		t.Errorf("%v is not hybrid", p)
	}
}

// P15.4: each kind of secret, said by each side, with each key known alone, and with none; by who solves nothing, one, or both.
func TestDerivableOfOne(t *testing.T) {
	for _, k := range kinds {
		for _, init := range []bool{true, false} {
			guards := k.byResp
			if init {
				guards = k.byInit
			}
			p := one(init, E, k.token)
			for _, curve := range []bool{false, true} {
				for _, kem := range []bool{false, true} {
					solved := curve && k.curve || kem && k.kem
					if got := Derivable(p, curve, kem, nil); got != solved {
						t.Errorf("%v, no key known, curve %v, kem %v: %v", p, curve, kem, got)
					}
					if got := Derivable(p, curve, kem, []Key{}); got != solved {
						t.Errorf("%v, a list of none, curve %v, kem %v: %v", p, curve, kem, got)
					}
					for _, key := range someKeys() {
						want := solved || slices.Contains(guards, key)
						if got := Derivable(p, curve, kem, []Key{key}); got != want {
							t.Errorf("%v, known %v, curve %v, kem %v: %v", p, key, curve, kem, got)
						}
					}
					// All keys but those that guard it; and all of them.
					rest := slices.DeleteFunc(someKeys(), func(x Key) bool { return slices.Contains(guards, x) })
					if got := Derivable(p, curve, kem, rest); got != solved {
						t.Errorf("%v, all others known, curve %v, kem %v: %v", p, curve, kem, got)
					}
					if !Derivable(p, curve, kem, someKeys()) || !Derivable(p, curve, kem, append(rest, guards...)) {
						t.Errorf("%v, all known, curve %v, kem %v: false", p, curve, kem)
					}
				}
			}
		}
	}
}

// P15.4: without secrets all is known.
func TestDerivableWithoutSecrets(t *testing.T) {
	for _, p := range []Pattern{
		one(true, E), one(false, S), one(true, E, S, E1), many(8, times(12, E1)...),
		{"X", [2]bool{true, true}, []Message{{true, []Token{E}}}},
	} {
		for _, known := range [][]Key{nil, {}, {initE}, someKeys()} {
			if !Derivable(p, false, false, known) || !Derivable(p, true, false, known) || !Derivable(p, false, true, known) || !Derivable(p, true, true, known) {
				t.Errorf("%v is not derivable", p)
			}
		}
	}
}

// plainKnown tells, by P15.4's words, whether a secret is known.
func plainKnown(init bool, token Token, curve, kem bool, known []Key) bool {
	for _, k := range kinds {
		if k.token != token {
			continue
		}
		guards := k.byResp
		if init {
			guards = k.byInit
		}
		for _, g := range guards {
			if slices.Contains(known, g) {
				return true
			}
		}
		return curve && k.curve || kem && k.kem
	}
	return true
}

// plainDerivable says P15.4's words of a pattern that may be written.
func plainDerivable(p Pattern, curve, kem bool, known []Key) bool {
	for _, m := range p.Messages {
		for _, token := range m.Tokens {
			if !plainKnown(m.Init, token, curve, kem, known) {
				return false
			}
		}
	}
	return true
}

// subsets are all lists of some of the seven keys that guard secrets.
func subsets() [][]Key {
	out := [][]Key{nil}
	for _, key := range []Key{initE, initS, initE1, respE, respS, respE1, psk} {
		for _, l := range out {
			out = append(out, append(slices.Clone(l), key))
		}
	}
	return out
}

// P15.4: the given patterns, and others, with all keys known that may be.
func TestDerivable(t *testing.T) {
	texts := []string{"X:\n-> psk", "X:\n-> ekem\n<- ekem", "X:\n-> skem, se\n<- es, ekem, psk", "X:\n-> ee, es, se, ss", "X:\n-> e, psk, psk\n<- ss"}
	for _, name := range Names() {
		text, _ := Given(name)
		texts = append(texts, text)
	}
	yes, no := 0, 0
	for _, text := range texts {
		p := parsed(t, text)
		for _, known := range subsets() {
			for i := range 4 {
				curve, kem := i&1 == 1, i&2 == 2
				want := plainDerivable(p, curve, kem, known)
				if got := Derivable(p, curve, kem, known); got != want {
					t.Fatalf("Derivable of %q, curve %v, kem %v, known %v: %v", text, curve, kem, known, got)
				}
				if want {
					yes++
				} else {
					no++
				}
			}
		}
	}
	if yes < 500 || no < 500 {
		t.Errorf("of one kind there are few: %d, %d", yes, no)
	}
}

// P15.4: in which order keys are known, how often, and among how many others, counts for nothing.
func TestDerivableOrder(t *testing.T) {
	text, _ := Given("NNpsk")
	p := parsed(t, text)
	for _, known := range [][]Key{{initE1, respE, psk}, {psk, respE, initE1}, {psk, psk, initE1, initE, initE1, psk}, {respS, {true, Psk}, psk, initS, respE1, respE, initE, initE1}} {
		if !Derivable(p, false, false, known) {
			t.Errorf("known %v: false", known)
		}
	}
	for _, known := range [][]Key{{initE1, respE, {true, Psk}}, {psk, respE, respE1}, {psk, initE1, respE1, respS, initS}, {initE1, initE1, initE1}} {
		if Derivable(p, false, false, known) {
			t.Errorf("known %v: true", known)
		}
	}
	long := slices.Repeat([]Key{respS}, 100000)
	if Derivable(p, false, false, long) || !Derivable(p, false, false, append(long, initE1, initE, psk)) {
		t.Errorf("a long list")
	}
}

// P15.6: the given patterns may be, are hybrid, and are told as they are given.
func TestGivenFollows(t *testing.T) {
	for _, name := range Names() {
		text, _ := Given(name)
		p := parsed(t, text)
		if p.Name != name || Check(p) != api.OK || !Hybrid(p) || Text(p) != text {
			t.Errorf("%s: %v, error %d", name, p, int(Check(p)))
		}
	}
}

// P15.3, P15.4, P15.6: any patterns are held to the words; of a hybrid one not all is known to who solves one kind alone;
// who knows more knows no less.
func TestFollows(t *testing.T) {
	r := chance(6)
	hybrids := 0
	for i := range 6000 {
		p := anyPattern(r, i%2 == 0)
		if Hybrid(p) {
			hybrids++
			if Derivable(p, true, false, nil) || Derivable(p, false, true, nil) {
				t.Fatalf("%v is derivable by one kind alone", p)
			}
		}
		if len(Guards(p)) > 0 && Derivable(p, false, false, nil) {
			t.Fatalf("%v is derivable by nothing", p)
		}
		var known []Key
		was := [4]bool{}
		for _, at := range r.Perm(len(someKeys())) {
			for k := range 4 {
				is := Derivable(p, k&1 == 1, k&2 == 2, known)
				if was[k] && !is || is != plainDerivable(p, k&1 == 1, k&2 == 2, known) {
					t.Fatalf("Derivable of %v, solved %d, known %v: %v", p, k, known, is)
				}
				was[k] = is
			}
			if was[0] && !was[1] || was[0] && !was[2] || was[1] && !was[3] || was[2] && !was[3] {
				t.Fatalf("%v, known %v: who solves more knows less: %v", p, known, was)
			}
			known = append(known, someKeys()[at])
		}
	}
	if hybrids < 1000 || hybrids > 5500 {
		t.Errorf("of one kind there are few: %d", hybrids)
	}
}

// P15.3: whoever changes a list that was told, or what lies behind it, changes no other one, nor what is told next.
func TestGuardsNewMemory(t *testing.T) {
	p := parsed(t, "X:\n-> ee, es, se, ss, psk, ekem, skem, ee, psk\n<- ee, ekem, skem, psk")
	want := Guards(p)
	for i := range want {
		got := Guards(p)
		room := got[i][:cap(got[i])]
		for k := range room {
			room[k] = Key{true, 77}
		}
		got[i] = want[i]
		if !reflect.DeepEqual(got, want) {
			t.Errorf("after list %d was changed: %v", i, got)
		}
	}
	first := Guards(p)
	for i := range first {
		first[i] = nil
	}
	if !reflect.DeepEqual(Guards(p), want) {
		t.Errorf("after another answer was changed: %v", Guards(p))
	}
}
