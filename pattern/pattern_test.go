package pattern

import (
	"math/rand/v2"
	"reflect"
	"slices"
	"strconv"
	"strings"
	"testing"

	"redan/api"
)

// chapterWords are the tokens' words in the chapter's order: the word of token i is at place i - 1.
var chapterWords = []string{"e", "s", "ee", "es", "se", "ss", "psk", "e1", "ekem", "skem"}

// parsed is the pattern of a text that is one.
func parsed(t *testing.T, text string) Pattern {
	t.Helper()
	p, e := Parse(text)
	if e != api.OK {
		t.Fatalf("Parse of %q: error %d", text, int(e))
	}
	return p
}

// readAs fails unless a text is read as a pattern.
func readAs(t *testing.T, text string, want Pattern) {
	t.Helper()
	if got := parsed(t, text); !reflect.DeepEqual(got, want) {
		t.Fatalf("Parse of %q: %v, want %v", text, got, want)
	}
}

// notRead fails unless Parse tells an error of a text, with nothing beside it.
func notRead(t *testing.T, text string, want api.Errno) {
	t.Helper()
	p, e := Parse(text)
	if e != want {
		t.Fatalf("Parse of %q: error %d, want %d", text, int(e), int(want))
	}
	if !reflect.DeepEqual(p, Pattern{}) {
		t.Fatalf("Parse of %q: %v beside the error", text, p)
	}
}

// checked fails unless Check tells the right thing of a text's pattern.
func checked(t *testing.T, text string, want api.Errno) {
	t.Helper()
	if got := Check(parsed(t, text)); got != want {
		t.Fatalf("Check of %q: error %d, want %d", text, int(got), int(want))
	}
}

// one is a pattern of one message.
func one(init bool, tokens ...Token) Pattern {
	return Pattern{Name: "X", Messages: []Message{{init, tokens}}}
}

// times is a token so many times.
func times(n int, token Token) []Token { return slices.Repeat([]Token{token}, n) }

// many is a pattern of n messages by turns, each of some tokens.
func many(n int, tokens ...Token) Pattern {
	p := Pattern{Name: "X"}
	for i := range n {
		p.Messages = append(p.Messages, Message{i%2 == 0, slices.Clone(tokens)})
	}
	return p
}

// named is a pattern with a name.
func named(name string) Pattern {
	p := one(true, E)
	p.Name = name
	return p
}

// copied is a pattern in memory of its own.
func copied(p Pattern) Pattern {
	p.Messages = slices.Clone(p.Messages)
	for i := range p.Messages {
		p.Messages[i].Tokens = slices.Clone(p.Messages[i].Tokens)
	}
	return p
}

// goodNames may be, badNames may not.
func goodNames() []string {
	return []string{
		"X", "x", "0", "9", "A", "Z", "a", "z", "XX", "NNpsk", "0123456789", "s", "e",
		strings.Repeat("n", 31), strings.Repeat("n", 32), "ABCDEFGHIJKLMNOPQRSTUVWXYZ012345", "abcdefghijklmnopqrstuvwxyz012345",
	}
}

func badNames() []string {
	out := []string{"", strings.Repeat("n", 33), strings.Repeat("n", 64), strings.Repeat("n", 288), "é", "ß", "Ω", "٣", "Ａ", "\xff", "\xc3"}
	for c := range 256 {
		if b := byte(c); !strings.ContainsRune("0123456789ABCDEFGHIJKLMNOPQRSTUVWXYZabcdefghijklmnopqrstuvwxyz", rune(c)) {
			for _, name := range []string{string([]byte{b}), string([]byte{b, 'X'}), string([]byte{'X', b}), string([]byte{'X', b, 'Y'})} {
				out = append(out, name)
			}
		}
	}
	// A last sign that is wrong, of as many as there may be; and 32 signs of more bytes.
	return append(out, strings.Repeat("n", 31)+"-", strings.Repeat("n", 31)+"é", strings.Repeat("é", 16), strings.Repeat("é", 32))
}

// unwritable are patterns that may not be written, each for one reason alone, with the reason.
func unwritable() map[string]Pattern {
	out := map[string]Pattern{
		"nothing":           {},
		"no message":        {Name: "X"},
		"a list of none":    {Name: "X", Messages: []Message{}},
		"no message, known": {Name: "X", Known: [2]bool{true, true}},
		"9 messages":        many(9, E),
		"10 messages":       many(10, E),
		"1000 messages":     many(1000, E),
		"no token":          one(true),
		"a list of no one":  {Name: "X", Messages: []Message{{true, []Token{}}}},
		"13 tokens":         one(true, times(13, EE)...),
		"1000 tokens":       one(false, times(1000, EE)...),
		"no first token":    {Name: "X", Messages: []Message{{true, nil}, {false, []Token{E}}}},
		"no last token":     {Name: "X", Messages: []Message{{true, []Token{E}}, {false, nil}}},
		"13 at last":        {Name: "X", Messages: []Message{{true, []Token{E}}, {false, times(13, E)}}},
	}
	for name, bad := range map[string]Token{"0": 0, "11": 11, "-1": -1, "12": 12, "-11": -11, "256 + 1": 257, "2^32 + 1": 1<<32 + 1, "the least": -1 << 63, "the greatest": 1<<63 - 1} {
		out["token "+name] = one(true, bad)
		out["first token "+name] = one(true, bad, E, S)
		out["last token "+name] = one(false, E, S, bad)
		out["last message's token "+name] = Pattern{Name: "X", Messages: []Message{{true, []Token{E}}, {false, []Token{E, bad}}}}
	}
	for _, name := range badNames() {
		out["name "+strconv.Quote(name)] = named(name)
	}
	return out
}

// tellWritable fails unless all calls take a pattern for one that may be written, or that may not.
func tellWritable(t *testing.T, p Pattern, want bool, why string) {
	t.Helper()
	known := []Key{{true, E}, {true, S}, {true, E1}, {false, E}, {false, S}, {false, E1}, {false, Psk}, {true, Psk}}
	if got := Text(p) != ""; got != want {
		t.Errorf("%s: Text is %q", why, Text(p))
	}
	if got := Check(p) != api.ErrArg; got != want {
		t.Errorf("%s: Check tells %d", why, int(Check(p)))
	}
	if got := Derivable(p, true, true, known); got != want {
		t.Errorf("%s: Derivable, with all known: %v", why, got)
	}
	if want {
		return
	}
	if got := Guards(p); len(got) != 0 {
		t.Errorf("%s: Guards are %v", why, got)
	}
	if Hybrid(p) || Derivable(p, false, false, nil) || Derivable(p, true, false, nil) || Derivable(p, false, true, known) {
		t.Errorf("%s: Hybrid or Derivable", why)
	}
}

// P15.1 to P15.4: a pattern that may not be written has no text, no secrets, and is refused, whatever the reason.
func TestUnwritable(t *testing.T) {
	for why, p := range unwritable() {
		tellWritable(t, p, false, why)
	}
}

// P15.1 to P15.4: a pattern that has the secrets of a hybrid one, and one thing that may not be.
func TestUnwritableHybrid(t *testing.T) {
	for name, bad := range map[string]func(p *Pattern){
		"no name":    func(p *Pattern) { p.Name = "" },
		"33 letters": func(p *Pattern) { p.Name = strings.Repeat("n", 33) },
		"token 0":    func(p *Pattern) { p.Messages[1].Tokens[2] = 0 },
		"token 11":   func(p *Pattern) { p.Messages[1].Tokens[2] = 11 },
		"no token":   func(p *Pattern) { p.Messages[0].Tokens = nil },
		"13 tokens":  func(p *Pattern) { p.Messages[0].Tokens = append(p.Messages[0].Tokens, times(11, EE)...) },
		"9 messages": func(p *Pattern) { p.Messages = append(p.Messages, many(7, E).Messages...) },
	} {
		p := parsed(t, "NN:\n-> e, e1\n<- ekem, e, ee")
		tellWritable(t, p, true, "whole")
		if !Hybrid(p) || len(Guards(p)) != 2 {
			t.Errorf("a whole one is not hybrid")
		}
		bad(&p)
		tellWritable(t, p, false, name)
	}
}

// P15.1 to P15.4: as much as may be: names, messages, tokens.
func TestWritable(t *testing.T) {
	for _, name := range goodNames() {
		tellWritable(t, named(name), true, name)
	}
	for n := 1; n <= 8; n++ {
		tellWritable(t, many(n, E), true, "messages")
		tellWritable(t, many(n, times(12, Skem)...), true, "messages of 12 tokens")
	}
	for n := 1; n <= 12; n++ {
		tellWritable(t, one(false, times(n, Psk)...), true, "tokens")
	}
	for token := Token(1); token <= 10; token++ {
		tellWritable(t, one(true, token), true, "a token")
	}
}

// rules is the chapter's P15.2, word by word, with a place for each thing that a side has or has said.
type rules struct {
	e, e1, s    [2]bool
	ee, es      bool
	se, ss, psk bool
	ekem, skem  [2]bool
}

// once notes a thing, and tells whether it was not there.
func once(was *bool) bool {
	is := !*was
	*was = true
	return is
}

// say tells whether a side may say a token, and notes that it did.
func (r *rules) say(init bool, token Token) bool {
	const i, resp = 0, 1
	own, other := i, resp
	if !init {
		own, other = resp, i
	}
	switch token {
	case 1:
		return once(&r.e[own])
	case 2:
		return once(&r.s[own])
	case 3:
		return r.e[i] && r.e[resp] && once(&r.ee)
	case 4:
		return r.e[i] && r.s[resp] && once(&r.es)
	case 5:
		return r.s[i] && r.e[resp] && once(&r.se)
	case 6:
		return r.s[i] && r.s[resp] && once(&r.ss)
	case 7:
		return (r.e[own] || r.e1[own]) && once(&r.psk)
	case 8:
		return once(&r.e1[own])
	case 9:
		return r.e1[other] && once(&r.ekem[own])
	}
	return r.s[other] && once(&r.skem[own])
}

// plainCheck is what P15.2 tells of a pattern that may be written.
func plainCheck(p Pattern) api.Errno {
	r := rules{s: p.Known}
	turn := true
	for _, m := range p.Messages {
		if m.Init != turn {
			return api.ErrRule
		}
		turn = !turn
		for _, token := range m.Tokens {
			if !r.say(m.Init, token) {
				return api.ErrRule
			}
		}
	}
	return api.OK
}

// knownOfBoth are all that Known may be.
var knownOfBoth = [][2]bool{{false, false}, {true, false}, {false, true}, {true, true}}

// P15.2: the chapter's examples, and what may be said at first.
func TestCheckFirst(t *testing.T) {
	for _, name := range []string{"IK", "KK", "NK", "NN", "NNpsk", "XX"} {
		text, _ := Given(name)
		checked(t, text, api.OK)
	}
	checked(t, "X:\n-> ee", api.ErrRule)
	for word, want := range map[string]api.Errno{
		"e": api.OK, "s": api.OK, "e1": api.OK, "ee": api.ErrRule, "es": api.ErrRule, "se": api.ErrRule, "ss": api.ErrRule,
		"psk": api.ErrRule, "ekem": api.ErrRule, "skem": api.ErrRule,
	} {
		checked(t, "X:\n-> "+word, want)
		checked(t, "X:\n<- "+word, api.ErrRule)
	}
}

// P15.2: messages are by turns, the initiator's first.
func TestCheckTurns(t *testing.T) {
	for text, want := range map[string]api.Errno{
		"X:\n-> e":                          api.OK,
		"X:\n<- e":                          api.ErrRule,
		"X:\n-> e\n<- e":                    api.OK,
		"X:\n<- e\n-> e":                    api.ErrRule,
		"X:\n-> e\n-> e1":                   api.ErrRule,
		"X:\n<- e\n<- e1":                   api.ErrRule,
		"X:\n-> e\n<- e\n-> e1":             api.OK,
		"X:\n-> e\n<- e\n<- e1":             api.ErrRule,
		"X:\n-> e\n<- e\n-> e1\n<- e1":      api.OK,
		"X:\n-> e\n<- e\n-> e1\n-> s":       api.ErrRule,
		"X:\n-> s\n...\n<- e":               api.ErrRule,
		"X:\n<- s\n...\n<- e":               api.ErrRule,
		"X:\n-> s\n...\n-> e":               api.OK,
		"X:\n<- s\n...\n-> e":               api.OK,
		"X:\n-> s\n<- s\n...\n-> e\n<- e":   api.OK,
		"X:\n-> s\n<- s\n...\n<- e\n-> e":   api.ErrRule,
		"X:\n-> e\n<- e\n-> s\n<- s\n<- e1": api.ErrRule,
		"X:\n-> e\n<- e\n-> s\n<- s\n-> e1": api.OK,
	} {
		checked(t, text, want)
	}
	// Each of these may be said by either side, and so a message that is turned round breaks this rule alone.
	turnedRound(t, "X:\n-> s\n<- s\n...\n-> ss\n<- e\n-> e1\n<- skem")
	turnedRound(t, "X:\n-> e\n<- e\n-> e1\n<- e1\n-> s\n<- s\n-> ee\n<- es")
}

// turnedRound fails unless a text's pattern may be, and may not with any one message said by the other side.
func turnedRound(t *testing.T, text string) {
	t.Helper()
	checked(t, text, api.OK)
	for i := range parsed(t, text).Messages {
		p := parsed(t, text)
		p.Messages[i].Init = !p.Messages[i].Init
		if e := Check(p); e != api.ErrRule {
			t.Errorf("%q, message %d turned round: error %d", text, i, int(e))
		}
	}
}

// P15.2: a key is said by the one who has it not.
func TestCheckKeys(t *testing.T) {
	// A and B are the other two keys: they stand where something must be said.
	for _, keys := range [][3]string{{"e", "s", "e1"}, {"s", "e1", "e"}, {"e1", "e", "s"}} {
		for text, want := range map[string]api.Errno{
			"-> W":                         api.OK,
			"-> W, W":                      api.ErrRule,
			"-> W, A, W":                   api.ErrRule,
			"-> W\n<- A\n-> W":             api.ErrRule,
			"-> W\n<- W":                   api.OK,
			"-> W\n<- W, W":                api.ErrRule,
			"-> A\n<- W":                   api.OK,
			"-> A\n<- W, W":                api.ErrRule,
			"-> A\n<- W\n-> W":             api.OK,
			"-> A\n<- W\n-> B\n<- W":       api.ErrRule,
			"-> A\n<- A\n-> W, B":          api.OK,
			"-> W, A\n<- B, A\n-> W":       api.ErrRule,
			"-> A, B, W\n<- W, B, A":       api.OK,
			"-> A, B\n<- A, B\n-> B":       api.ErrRule,
			"-> W\n<- A\n-> A\n<- W":       api.OK,
			"-> W\n<- W\n-> A, B, W":       api.ErrRule,
			"-> A\n<- A, B, W\n-> B":       api.OK,
			"-> A\n<- W, B, A\n-> A":       api.ErrRule,
			"-> A, W\n<- B\n-> B, W":       api.ErrRule,
			"-> A, W\n<- B\n-> B\n<- A, W": api.OK,
		} {
			text = strings.NewReplacer("W", keys[0], "A", keys[1], "B", keys[2]).Replace(text)
			checked(t, "X:\n"+text, want)
		}
	}
	for text, want := range map[string]api.Errno{
		"-> s\n...\n-> s":             api.ErrRule,
		"<- s\n...\n-> s":             api.OK,
		"-> s\n<- s\n...\n-> s":       api.ErrRule,
		"-> s\n...\n-> e\n<- s":       api.OK,
		"<- s\n...\n-> e\n<- s":       api.ErrRule,
		"-> s\n<- s\n...\n-> e\n<- s": api.ErrRule,
		"<- s\n...\n-> s\n<- s":       api.ErrRule,
		"-> s\n<- s\n...\n-> e\n<- e": api.OK,
		"-> s\n<- s\n...\n-> e, e1":   api.OK,
	} {
		checked(t, "X:\n"+text, want)
	}
}

// P15.2: secrets of the curve: each side's key is there, and each is said once.
func TestCheckCurve(t *testing.T) {
	for _, c := range []struct{ word, init, resp string }{{"ee", "e", "e"}, {"es", "e", "s"}, {"se", "s", "e"}, {"ss", "s", "s"}} {
		for text, want := range map[string]api.Errno{
			"-> I\n<- R, W":             api.OK,
			"-> I\n<- R\n-> W":          api.OK,
			"-> I\n<- R\n-> e1\n<- W":   api.OK,
			"-> I\n<- W, R":             api.ErrRule,
			"-> I, W\n<- R":             api.ErrRule,
			"-> W, I\n<- R":             api.ErrRule,
			"-> I\n<- e1, W":            api.ErrRule,
			"-> I\n<- e1\n-> W":         api.ErrRule,
			"-> e1\n<- R, W":            api.ErrRule,
			"-> e1\n<- R\n-> W":         api.ErrRule,
			"-> e1\n<- R\n-> W, I":      api.ErrRule,
			"-> e1\n<- R\n-> I, W":      api.OK,
			"-> I\n<- R, W, W":          api.ErrRule,
			"-> I\n<- R, W, e1, W":      api.ErrRule,
			"-> I\n<- R\n-> W, W":       api.ErrRule,
			"-> I\n<- R, W\n-> W":       api.ErrRule,
			"-> I\n<- R\n-> W\n<- W":    api.ErrRule,
			"-> I, N\n<- e1, W":         api.ErrRule, // all of the initiator's keys, none of the responder's
			"-> e1\n<- R, M, W":         api.ErrRule, // and the other way round
			"-> I, N, e1\n<- M, e1, W":  api.ErrRule, // the responder's other key
			"-> N, e1\n<- R, M, e1, W":  api.ErrRule,
			"-> I, N\n<- R, M, W\n-> W": api.ErrRule,
		} {
			text = strings.NewReplacer("W", c.word, "I", c.init, "R", c.resp, "N", otherKey(c.init), "M", otherKey(c.resp)).Replace(text)
			checked(t, "X:\n"+text, want)
		}
	}
	// All four of them, once each, by either side.
	checked(t, "X:\n-> e, s\n<- e, s, ee, es, se, ss", api.OK)
	checked(t, "X:\n-> e, s\n<- e, s\n-> ss, se, es, ee", api.OK)
	checked(t, "X:\n-> e, s\n<- e, s, ee, ss\n-> es, se", api.OK)
}

// otherKey is the curve's other key.
func otherKey(word string) string {
	if word == "e" {
		return "s"
	}
	return "e"
}

// P15.2: long-lived keys that are known beforehand are there.
func TestCheckKnown(t *testing.T) {
	for _, c := range []struct {
		body string
		ok   [4]bool // nobody's known, the initiator's, the responder's, both
	}{
		{"-> e, es", [4]bool{false, false, true, true}},
		{"-> e\n<- es", [4]bool{false, false, true, true}},
		{"-> e\n<- e, se", [4]bool{false, true, false, true}},
		{"-> e\n<- e\n-> se", [4]bool{false, true, false, true}},
		{"-> ss", [4]bool{false, false, false, true}},
		{"-> e\n<- ss", [4]bool{false, false, false, true}},
		{"-> s, ss", [4]bool{false, false, true, false}},
		{"-> e\n<- s, ss", [4]bool{false, true, false, false}},
		{"-> skem", [4]bool{false, false, true, true}},
		{"-> e\n<- skem", [4]bool{false, true, false, true}},
		{"-> skem\n<- skem", [4]bool{false, false, false, true}},
		{"-> s, skem", [4]bool{false, false, true, false}},
		{"-> s\n<- skem", [4]bool{true, false, true, false}},
		{"-> e, e1\n<- e, ee, ekem, psk", [4]bool{true, true, true, true}},
		{"-> e, ee", [4]bool{}},
		{"-> psk", [4]bool{}},
		{"-> ekem", [4]bool{}},
		{"-> s, psk", [4]bool{}},
	} {
		p := parsed(t, "X:\n"+c.body)
		for i, known := range knownOfBoth {
			p.Known = known
			want := api.ErrRule
			if c.ok[i] {
				want = api.OK
			}
			if got := Check(p); got != want {
				t.Errorf("Check of %q, known %v: error %d, want %d", c.body, known, int(got), int(want))
			}
		}
	}
}

// P15.2: secrets of the KEM: the other side's key is there, and each side says each of them once.
func TestCheckKem(t *testing.T) {
	for _, c := range []struct{ word, key string }{{"ekem", "e1"}, {"skem", "s"}} {
		for text, want := range map[string]api.Errno{
			"-> K\n<- W":                   api.OK,
			"-> K, W":                      api.ErrRule, // the own key is not the other's
			"-> e\n<- K, W":                api.ErrRule,
			"-> e\n<- K\n-> W":             api.OK,
			"-> W\n<- K":                   api.ErrRule,
			"-> e\n<- W\n-> K":             api.ErrRule,
			"-> K\n<- W, W":                api.ErrRule,
			"-> K\n<- W, e, W":             api.ErrRule,
			"-> K\n<- W\n-> e\n<- W":       api.ErrRule,
			"-> e\n<- K\n-> W, W":          api.ErrRule,
			"-> e\n<- K\n-> W\n<- e\n-> W": api.ErrRule,
			"-> K\n<- K, W\n-> W":          api.OK, // once for each side
			"-> K\n<- K\n-> W\n<- W":       api.OK,
			"-> K\n<- W, K\n-> W\n<- W":    api.ErrRule,
			"-> K\n<- W, K\n-> W, W":       api.ErrRule,
			"-> e, O\n<- W":                api.ErrRule, // the other side's other keys are not this one
			"-> e\n<- e, O\n-> W":          api.ErrRule,
		} {
			other := map[string]string{"e1": "s", "s": "e1"}[c.key]
			text = strings.NewReplacer("W", c.word, "K", c.key, "O", other).Replace(text)
			checked(t, "X:\n"+text, want)
		}
	}
	checked(t, "X:\n-> e1, s\n<- e1, s, ekem, skem\n-> skem, ekem", api.OK)
}

// P15.2: psk is said once, by one who has E or E1.
func TestCheckPsk(t *testing.T) {
	for text, want := range map[string]api.Errno{
		"-> e, psk":                 api.OK,
		"-> e1, psk":                api.OK,
		"-> e, e1, psk":             api.OK,
		"-> s, psk":                 api.ErrRule,
		"-> psk, e":                 api.ErrRule,
		"-> psk, e1":                api.ErrRule,
		"-> e\n<- psk":              api.ErrRule, // the other side's keys are not its own
		"-> e, e1, s\n<- psk":       api.ErrRule,
		"-> e, e1\n<- s, psk":       api.ErrRule,
		"-> s\n<- e, psk":           api.OK,
		"-> s\n<- e1, psk":          api.OK,
		"-> s\n<- psk, e":           api.ErrRule,
		"-> s\n<- e, e1\n-> psk":    api.ErrRule,
		"-> s\n<- e\n-> e, psk":     api.OK,
		"-> e, psk, psk":            api.ErrRule,
		"-> e, psk\n<- e, psk":      api.ErrRule, // once in all, not for each side
		"-> e, psk\n<- e\n-> psk":   api.ErrRule,
		"-> e\n<- e, psk, psk":      api.ErrRule,
		"-> e\n<- e, psk\n-> psk":   api.ErrRule,
		"-> e\n<- e\n-> psk":        api.OK,
		"-> e\n<- e\n-> s\n<- psk":  api.OK,
		"-> e\n<- e1, psk\n-> s":    api.OK,
		"-> e1, psk\n<- e1\n-> psk": api.ErrRule,
	} {
		checked(t, "X:\n"+text, want)
	}
}

// P15.2: a rule that is broken at the very end of a long pattern.
func TestCheckLast(t *testing.T) {
	text := "X:\n-> e\n<- e, ee\n-> e1\n<- e1, ekem\n-> ekem, s\n<- s, es\n-> se, ss, skem\n<- skem, psk"
	checked(t, text, api.OK)
	for _, word := range []string{"e", "s", "e1", "ee", "es", "se", "ss", "psk", "ekem", "skem"} {
		checked(t, text+", "+word, api.ErrRule)
		checked(t, strings.Replace(text, "skem, psk", "skem, "+word+", psk", 1), api.ErrRule)
	}
}

// shortMessages are all messages of one and two tokens, of one side.
func shortMessages(init bool) []Message {
	var out []Message
	for a := E; a <= Skem; a++ {
		out = append(out, Message{init, []Token{a}})
		for b := E; b <= Skem; b++ {
			out = append(out, Message{init, []Token{a, b}})
		}
	}
	return out
}

// heldToRules fails unless Check tells what P15.2's words tell.
func heldToRules(t *testing.T, p Pattern) api.Errno {
	t.Helper()
	want := plainCheck(p)
	if got := Check(p); got != want {
		t.Fatalf("Check of %v: error %d, want %d", p, int(got), int(want))
	}
	return want
}

// P15.2: every pattern of up to two messages of up to two tokens, with each Known.
func TestCheckOfAllShort(t *testing.T) {
	count := map[api.Errno]int{}
	firsts := append(shortMessages(true), shortMessages(false)...)
	for _, known := range knownOfBoth {
		for _, a := range firsts {
			count[heldToRules(t, Pattern{"X", known, []Message{a}})]++
			for _, b := range firsts {
				count[heldToRules(t, Pattern{"X", known, []Message{a, b}})]++
			}
		}
	}
	if count[api.OK] < 1000 || count[api.ErrRule] < 1000 {
		t.Errorf("of one kind there are few: %v", count)
	}
}

// chance is where tests draw from; each time the same.
func chance(seed uint64) *rand.Rand { return rand.New(rand.NewPCG(seed, 15)) }

// anyPattern is one that may be written; of its tokens few, or most, may not be said where they stand.
func anyPattern(r *rand.Rand, keen bool) Pattern {
	p := Pattern{Name: goodNames()[r.IntN(len(goodNames()))], Known: knownOfBoth[r.IntN(4)]}
	now := rules{s: p.Known}
	for i := range 1 + r.IntN(8) {
		m := Message{Init: i%2 == 0}
		if r.IntN(50) == 0 {
			m.Init = !m.Init
		}
		for range 1 + r.IntN(1+r.IntN(12)) {
			m.Tokens = append(m.Tokens, anyToken(r, keen, m.Init, &now))
		}
		p.Messages = append(p.Messages, m)
	}
	return p
}

// anyToken is one that may be said next, if there is some, and the draw is keen on it.
func anyToken(r *rand.Rand, keen bool, init bool, now *rules) Token {
	token := Token(1 + r.IntN(10))
	if !keen || r.IntN(100) == 0 {
		return token
	}
	for range 10 {
		if then := *now; then.say(init, token) {
			*now = then
			return token
		}
		token = token%10 + 1
	}
	return token
}

// P15.2: long patterns of all kinds.
func TestCheckOfMany(t *testing.T) {
	r := chance(2)
	count, longest := map[api.Errno]int{}, 0
	for i := range 60000 {
		p := anyPattern(r, i%4 != 0)
		e := heldToRules(t, p)
		count[e]++
		if e == api.OK {
			longest = max(longest, len(Guards(p)))
		}
	}
	if count[api.OK] < 1000 || count[api.ErrRule] < 1000 || longest < 9 {
		t.Errorf("of one kind there are few: %v, or they are short: %d secrets", count, longest)
	}
}

// P15.2: of patterns that may be, each with one token put in anywhere, left out, or said by the other side.
func TestCheckOfChanged(t *testing.T) {
	count := map[api.Errno]int{}
	for _, name := range Names() {
		text, _ := Given(name)
		whole := parsed(t, text)
		for i, m := range whole.Messages {
			for at := range len(m.Tokens) + 1 {
				for token := E; token <= Skem; token++ {
					p := copied(whole)
					p.Messages[i].Tokens = slices.Insert(p.Messages[i].Tokens, at, token)
					count[heldToRules(t, p)]++
				}
			}
			for at := range len(m.Tokens) {
				p := copied(whole)
				p.Messages[i].Tokens = slices.Delete(p.Messages[i].Tokens, at, at+1)
				if len(p.Messages[i].Tokens) > 0 {
					count[heldToRules(t, p)]++
				}
			}
		}
		for _, known := range knownOfBoth {
			p := copied(whole)
			p.Known = known
			count[heldToRules(t, p)]++
		}
	}
	if count[api.OK] < 20 || count[api.ErrRule] < 20 {
		t.Errorf("of one kind there are few: %v", count)
	}
}

// P15.2: a name and how long a message is count for nothing.
func TestCheckOfNames(t *testing.T) {
	for _, name := range goodNames() {
		for body, want := range map[string]api.Errno{"-> e": api.OK, "-> ee": api.ErrRule} {
			checked(t, name+":\n"+body, want)
		}
	}
}

// P15.1 to P15.4: what is handed in is left as it was, and what lies behind it too.
func TestNothingIsChanged(t *testing.T) {
	r := chance(3)
	for range 300 {
		p := roomy(anyPattern(r, true))
		was := copied(p)
		known := append(make([]Key, 0, 8), Key{true, S}, Key{false, E}, Key{false, Psk})
		Text(p)
		Check(p)
		Hybrid(p)
		Guards(p)
		Derivable(p, false, false, known)
		Derivable(p, true, true, known)
		if !reflect.DeepEqual(p, was) {
			t.Fatalf("%v became %v", was, p)
		}
		if !slices.Equal(known[:cap(known)], []Key{{true, S}, {false, E}, {false, Psk}, {}, {}, {}, {}, {}}) {
			t.Fatalf("the known keys became %v", known[:cap(known)])
		}
		for i, m := range p.Messages {
			if room := m.Tokens[:cap(m.Tokens)]; slices.ContainsFunc(room[len(m.Tokens):], func(x Token) bool { return x != 77 }) {
				t.Fatalf("behind message %d's tokens: %v", i, room)
			}
		}
	}
}

// roomy is a pattern with room behind its messages' tokens, with a token there that is none.
func roomy(p Pattern) Pattern {
	p = copied(p)
	for i, m := range p.Messages {
		room := slices.Concat(m.Tokens, times(20, 77))
		p.Messages[i].Tokens = room[:len(m.Tokens):len(room)]
	}
	return p
}

// P15.1 to P15.4: the same calls have the same answers, whatever was asked between.
func TestSameAgain(t *testing.T) {
	r := chance(4)
	for i := range 200 {
		p, other := anyPattern(r, true), anyPattern(r, i%2 == 0)
		text, e, guards := Text(p), Check(p), Guards(p)
		hybrid, derivable := Hybrid(p), Derivable(p, true, false, nil)
		Parse(Text(other))
		Check(other)
		Guards(other)
		if Text(p) != text || Check(p) != e || !reflect.DeepEqual(Guards(p), guards) || Hybrid(p) != hybrid || Derivable(p, true, false, nil) != derivable {
			t.Fatalf("%v: other answers", p)
		}
	}
}
