package pattern

import (
	"math/rand/v2"
	"reflect"
	"regexp"
	"slices"
	"strings"
	"testing"

	"redan/api"
)

// P15.1: each token's number and its word, said by either side.
func TestTokens(t *testing.T) {
	tokens := []Token{E, S, EE, ES, SE, SS, Psk, E1, Ekem, Skem}
	for i, word := range chapterWords {
		if int(tokens[i]) != i+1 {
			t.Errorf("%s is %d, want %d", word, int(tokens[i]), i+1)
		}
		for arrow, init := range map[string]bool{"->": true, "<-": false} {
			text := "X:\n  " + arrow + " " + word + "\n"
			if got := Text(one(init, tokens[i])); got != text {
				t.Errorf("Text is %q, want %q", got, text)
			}
			readAs(t, text, one(init, tokens[i]))
		}
	}
}

// P15.1: whole texts, byte by byte.
func TestText(t *testing.T) {
	for text, p := range map[string]Pattern{
		"X:\n  -> e\n":                         one(true, E),
		"X:\n  -> s\n":                         one(true, S),
		"X:\n  -> s\n  <- s\n":                 {"X", [2]bool{}, []Message{{true, []Token{S}}, {false, []Token{S}}}},
		"X:\n  -> s\n  ...\n  -> e\n":          {"X", [2]bool{true, false}, []Message{{true, []Token{E}}}},
		"X:\n  <- s\n  ...\n  -> e\n":          {"X", [2]bool{false, true}, []Message{{true, []Token{E}}}},
		"X:\n  -> s\n  <- s\n  ...\n  -> e\n":  {"X", [2]bool{true, true}, []Message{{true, []Token{E}}}},
		"X:\n  -> s\n  ...\n  -> s\n":          {"X", [2]bool{true, false}, []Message{{true, []Token{S}}}},
		"X:\n  <- s\n  ...\n  <- s\n  <- s\n":  {"X", [2]bool{false, true}, []Message{{false, []Token{S}}, {false, []Token{S}}}},
		"a0Z:\n  <- e, s, ee\n  <- psk\n":      {"a0Z", [2]bool{}, []Message{{false, []Token{E, S, EE}}, {false, []Token{Psk}}}},
		"9:\n  -> skem, ekem, e1\n  -> e, e\n": {"9", [2]bool{}, []Message{{true, []Token{Skem, Ekem, E1}}, {true, []Token{E, E}}}},
	} {
		if got := Text(p); got != text {
			t.Errorf("Text of %v is %q, want %q", p, got, text)
		}
		readAs(t, text, p)
	}
	long := Text(many(8, times(12, Ekem)...))
	line := strings.Repeat("ekem, ", 11) + "ekem\n"
	if want := "X:\n" + strings.Repeat("  -> "+line+"  <- "+line, 4); long != want {
		t.Errorf("Text is %q, want %q", long, want)
	}
	readAs(t, long, many(8, times(12, Ekem)...))
}

// pieces are a text without its blanks: they may stand between any two of them, ahead of all and behind all.
func pieces() []string {
	return []string{
		"Nn1", ":", "\n", "->", "s", "\n", "<-", "s", "\n", "...", "\n",
		"->", "skem", ",", "e", ",", "e1", "\n", "<-", "ee", "\n", "->", "psk", ",", "ss", "\n",
	}
}

// ofPieces is what pieces are read as.
func ofPieces() Pattern {
	return Pattern{"Nn1", [2]bool{true, true}, []Message{{true, []Token{Skem, E, E1}}, {false, []Token{EE}}, {true, []Token{Psk, SS}}}}
}

// with are pieces with something put in ahead of one of them, or behind all.
func with(at int, what string) string { return strings.Join(slices.Insert(pieces(), at, what), "") }

// P15.1: blanks at each place where they may stand, one, two or many, there alone and at all of them at once, and nowhere.
func TestParseBlanks(t *testing.T) {
	for _, n := range []int{0, 1, 2, 3, 17, 300} {
		blanks := strings.Repeat(" ", n)
		for at := range len(pieces()) + 1 {
			readAs(t, with(at, blanks), ofPieces())
		}
		if n < 100 {
			readAs(t, blanks+strings.Join(pieces(), blanks)+blanks, ofPieces())
		}
	}
	if text := Text(ofPieces()); strings.ReplaceAll(text, " ", "") != strings.Join(pieces(), "") {
		t.Errorf("the pieces are not those of %q", text)
	}
}

// P15.1: a blank within a name, a word, an arrow or the dots.
func TestParseBlanksWithin(t *testing.T) {
	for i, piece := range pieces() {
		for at := 1; at < len(piece); at++ {
			l := pieces()
			l[i] = piece[:at] + " " + piece[at:]
			notRead(t, strings.Join(l, ""), api.ErrPattern)
		}
	}
}

// P15.1: white space that is no blank, and other signs, wherever a blank may stand.
func TestParseOtherSpace(t *testing.T) {
	for _, sign := range []string{"\t", "\r", "\v", "\f", "\x00", "\x1f", "\x7f", "\u0085", "\u00a0", "\u2003", "\u2028", "\u3000", "\ufeff", "\xa0", "\xff", "#", ";", "//"} {
		for at := range len(pieces()) + 1 {
			notRead(t, with(at, sign), api.ErrPattern)
			notRead(t, with(at, " "+sign+" "), api.ErrPattern)
			notRead(t, with(at, "\n"+sign+"\n"), api.ErrPattern)
		}
	}
	notRead(t, strings.Join(pieces(), "\t"), api.ErrPattern)
	notRead(t, strings.ReplaceAll(strings.Join(pieces(), ""), "\n", "\r\n"), api.ErrPattern)
	notRead(t, strings.ReplaceAll(strings.Join(pieces(), ""), "\n", "\r"), api.ErrPattern)
}

// P15.1: lines of nothing and of blanks count for nothing, ahead of all, between any two lines, and behind all; but a
// line that is broken by one does.
func TestParseEmptyLines(t *testing.T) {
	for _, lines := range []string{"\n", "\n\n", "\n \n", "\n  \n   \n", "   \n", strings.Repeat("\n", 400), strings.Repeat(" \n", 400)} {
		l := pieces()
		for at := range len(l) + 1 {
			if at == 0 || at == len(l) || l[at-1] == "\n" || l[at] == "\n" {
				readAs(t, with(at, lines), ofPieces())
			} else {
				notRead(t, with(at, lines), api.ErrPattern)
			}
		}
	}
	readAs(t, "\n\n   \n\n"+strings.ReplaceAll(Text(ofPieces()), "\n", "\n\n  \n \n")+"\n   ", ofPieces())
}

// P15.1: the last line feed may be missing, and no other one.
func TestParseLastLineFeed(t *testing.T) {
	l := pieces()
	readAs(t, strings.Join(l[:len(l)-1], ""), ofPieces())
	readAs(t, strings.Join(l[:len(l)-1], "")+"  ", ofPieces())
	readAs(t, strings.Join(l, "")+"  ", ofPieces())
	for i := range len(l) - 1 {
		if l[i] == "\n" {
			notRead(t, strings.Join(slices.Delete(pieces(), i, i+1), ""), api.ErrPattern)
			notRead(t, strings.Join(slices.Replace(pieces(), i, i+1, " "), ""), api.ErrPattern)
		}
	}
	readAs(t, "X:\n->e", one(true, E))
	notRead(t, "X:->e", api.ErrPattern)
	notRead(t, "X: -> e\n", api.ErrPattern)
	notRead(t, "X\n:\n-> e\n", api.ErrPattern)
	notRead(t, "X:\n->\ne\n", api.ErrPattern)
	notRead(t, "X:\n-> e\n, s\n", api.ErrPattern)
}

// P15.1: any piece that is missing, or that is there twice. Line feeds may be there twice; without the dots all lines
// are messages; and a name twice is another name, e twice is ee.
func TestParsePieces(t *testing.T) {
	for i, piece := range pieces() {
		less, more := strings.Join(slices.Delete(pieces(), i, i+1), ""), with(i, piece)
		if piece == "\n" {
			readAs(t, more, ofPieces())
			continue
		}
		if piece != "..." {
			notRead(t, less, api.ErrPattern)
		}
		if piece != "Nn1" && piece != "e" {
			notRead(t, more, api.ErrPattern)
		}
	}
}

// P15.1: texts that have no pattern.
func TestParseNothing(t *testing.T) {
	for _, text := range []string{
		"", " ", "\n", "\n\n", "  \n  ", "X", "X\n", "X:", "X:\n", ":", ":\n", "X:\n\n\n", "-> e", "-> e\n", "X\n-> e", "...", "X:\n...",
		"X:\n...\n", "X:\n-> s\n...", "X:\n-> s\n<- s\n...\n", "X:\n->", "X:\n-> \n", "X:\n<-", "X:\n,", "X:\n-> ,", "X:\ne", "X:\ne, s",
		"-> e\nX:", "-> e\nX:\n-> e", "X:\nY:\n-> e", "X:\n-> e\nY:", "X:\n-> e\nY:\n-> e", "X:\nX:\n-> e", "X::\n-> e", "X: :\n-> e",
		"X:\n-> e:", "X:\n-> e\n:", ":X:\n-> e", "X;\n-> e", "X:\n-> e.", "X:\n-> e;", "X:\n(-> e)", "# X\nX:\n-> e", "X: # x\n-> e",
	} {
		notRead(t, text, api.ErrPattern)
	}
}

// P15.1: arrows that are none.
func TestParseArrows(t *testing.T) {
	for _, arrow := range []string{"", "-", ">", "<", "--", "=>", "<=", "-->", "->>", "<--", "<<-", "<->", "->->", "-> ->", "-> <-", ">-", "-<", "→", "- >", "< -"} {
		notRead(t, "X:\n"+arrow+" e", api.ErrPattern)
		notRead(t, "X:\n-> e\n"+arrow+" e", api.ErrPattern)
		notRead(t, "X:\n"+arrow+" s\n...\n-> e", api.ErrPattern)
	}
}

// P15.1: words that are none: between others, first, last, and alone.
func TestParseWords(t *testing.T) {
	for _, word := range []string{
		"", "E", "S", "EE", "Es", "PSK", "Psk", "psk0", "pskk", "ps", "e2", "e0", "e11", "1e", "es1", "ek", "kem", "ekem1", "e1kem", "eKem", "skems",
		"sk", "x", "eee", "eess", "sse", "é", "ｅ", "\"e\"", "e\x00", "\x00", "1", "0", "-1", "Token", "...", "e...", "->", "-> e", "<-", "e -> s", "e s", "e  s",
	} {
		for _, text := range []string{"W", "e, W", "W, e", "e, W, s", "e,W,s"} {
			notRead(t, "X:\n-> "+strings.ReplaceAll(text, "W", word), api.ErrPattern)
			notRead(t, "X:\n-> e\n<- "+strings.ReplaceAll(text, "W", word)+"\n-> s\n", api.ErrPattern)
		}
	}
	// Every word of up to three signs of those that words are made of, and with any one sign behind: the ten alone are words.
	all := []string{""}
	for range 3 {
		for _, w := range all {
			for _, c := range "esk1pm" {
				all = append(all, w+string(c))
			}
		}
	}
	for _, w := range chapterWords {
		for c := range 256 {
			all = append(all, w+string([]byte{byte(c)}))
		}
	}
	for _, w := range all {
		// What is put behind by a blank, a comma or a line feed is told elsewhere.
		if strings.ContainsAny(w, " ,\n") {
			continue
		}
		_, e := Parse("X:\n-> " + w)
		if (e == api.OK) != slices.Contains(chapterWords, w) {
			t.Errorf("the word %q: error %d", w, int(e))
		}
	}
}

// P15.1: a comma too many, or too few.
func TestParseCommas(t *testing.T) {
	for _, tokens := range []string{
		",", ",,", ", e", "e,", "e, ", "e ,", "e,,s", "e, ,s", "e, , s", ",e,s", "e,s,", "e, s, ", "e, s,,", "e s", "e  s", "e;s", "e.s", "e|s", "e,\ts", "e，s", "e、s",
	} {
		notRead(t, "X:\n-> "+tokens, api.ErrPattern)
		notRead(t, "X:\n-> "+tokens+"\n<- e\n", api.ErrPattern)
		notRead(t, "X:\n-> e\n<- "+tokens+"\n", api.ErrPattern)
	}
	notRead(t, "X,:\n-> e", api.ErrPattern)
	notRead(t, "X:,\n-> e", api.ErrPattern)
	notRead(t, "X:\n,-> e", api.ErrPattern)
	notRead(t, "X:\n-> s,\n...\n-> e", api.ErrPattern)
	notRead(t, "X:\n-> ,s\n...\n-> e", api.ErrPattern)
	notRead(t, "X:\n-> s\n...,\n-> e", api.ErrPattern)
}

// P15.1: the dots, and what may stand ahead of them.
func TestParseKnown(t *testing.T) {
	e := []Message{{true, []Token{E}}}
	readAs(t, "X:\n-> s\n...\n-> e", Pattern{"X", [2]bool{true, false}, e})
	readAs(t, "X:\n<- s\n...\n-> e", Pattern{"X", [2]bool{false, true}, e})
	readAs(t, "X:\n-> s\n<- s\n...\n-> e", Pattern{"X", [2]bool{true, true}, e})
	// Behind the dots, or without them, such lines are messages.
	readAs(t, "X:\n-> s\n...\n<- s", Pattern{"X", [2]bool{true, false}, []Message{{false, []Token{S}}}})
	readAs(t, "X:\n<- s\n...\n-> s\n<- s", Pattern{"X", [2]bool{false, true}, []Message{{true, []Token{S}}, {false, []Token{S}}}})
	readAs(t, "X:\n-> s", Pattern{"X", [2]bool{}, []Message{{true, []Token{S}}}})
	readAs(t, "X:\n<- s", Pattern{"X", [2]bool{}, []Message{{false, []Token{S}}}})
	readAs(t, "X:\n<- s\n-> s", Pattern{"X", [2]bool{}, []Message{{false, []Token{S}}, {true, []Token{S}}}})
	readAs(t, "X:\n-> s\n<- s\n-> e", Pattern{"X", [2]bool{}, []Message{{true, []Token{S}}, {false, []Token{S}}, {true, []Token{E}}}})
	for _, body := range []string{
		"...\n-> e", "...\n...\n-> e", "...\n-> s\n...\n-> e", // nothing is known
		"<- s\n-> s\n...\n-> e",                                                         // the other order
		"-> s\n-> s\n...\n-> e", "<- s\n<- s\n...\n-> e", "-> s\n<- s\n<- s\n...\n-> e", // said twice
		"-> s\n<- s\n-> s\n...\n-> e", "-> s\n-> s\n<- s\n...\n-> e", "-> s, s\n...\n-> e", "<- s, s\n...\n-> e",
		"-> s\n...\n...\n-> e", "-> s\n...\n<- s\n...\n-> e", "-> s\n...\n-> e\n...", "-> s\n...\n-> e\n...\n<- e", // the dots twice
		"-> e\n...\n-> e", "<- e1\n...\n-> e", "-> s, e\n...\n-> e", "-> e, s\n...\n-> e", "-> s\n<- e\n...\n-> e", "-> e\n<- s\n...\n-> e", // other keys
		"-> ss\n...\n-> e", "-> skem\n...\n-> e", "-> S\n...\n-> e", "->\n...\n-> e", "s\n...\n-> e", "-> s s\n...\n-> e",
		"-> e\n...", "-> e\n<- e\n...", "-> s\n...", "-> s\n<- s\n...", "-> s\n-> e\n...\n-> e", // the dots too late
		"-> s\n..\n-> e", "-> s\n....\n-> e", "-> s\n. . .\n-> e", "-> s\n…\n-> e", "-> s\n... -> e", "-> s ...\n-> e", "-> s\n-> ...\n-> e", "-> s\n...\n....\n-> e",
	} {
		notRead(t, "X:\n"+body, api.ErrPattern)
	}
	notRead(t, "...\nX:\n-> e", api.ErrPattern)
	notRead(t, "-> s\n...\nX:\n-> e", api.ErrPattern)
	notRead(t, "X: ...\n-> e", api.ErrPattern)
}

// P15.1: names that may be, and may not.
func TestParseNames(t *testing.T) {
	for _, name := range goodNames() {
		readAs(t, name+":\n-> e", named(name))
		readAs(t, "  "+name+"   :  \n-> e", named(name))
	}
	for _, name := range badNames() {
		// Blanks and line feeds about a name may stand there.
		if strings.Trim(name, " \n") == name || strings.Trim(name, " \n") == "" {
			notRead(t, name+":\n-> e", api.ErrPattern)
		}
	}
	notRead(t, "X\n"+"Y:\n-> e", api.ErrPattern)
	notRead(t, "X Y:\n-> e", api.ErrPattern)
}

// P15.1: no message, 8 and 9; none, 12 and 13 tokens; all of them at once.
func TestParseCounts(t *testing.T) {
	for n := range 20 {
		for _, known := range []string{"", "-> s\n...\n", "<- s\n...\n", "-> s\n<- s\n...\n"} {
			text := "X:\n" + known
			for i := range n {
				text += []string{"-> e\n", "<- e, s\n"}[i%2]
			}
			p, e := Parse(text)
			if 1 <= n && n <= 8 {
				if e != api.OK || len(p.Messages) != n {
					t.Errorf("%d messages: %d, error %d", n, len(p.Messages), int(e))
				}
			} else {
				notRead(t, text, api.ErrPattern)
			}
		}
		line := strings.TrimSuffix(strings.Repeat("psk, ", n), ", ")
		for _, text := range []string{"X:\n-> W", "X:\n-> e\n<- W", "X:\n-> W\n<- e", "X:\n<- s\n...\n-> W"} {
			text = strings.ReplaceAll(text, "W", line)
			if 1 <= n && n <= 12 {
				parsed(t, text)
			} else {
				notRead(t, text, api.ErrPattern)
			}
		}
		readAs(t, "X:\n-> "+strings.TrimSuffix(strings.Repeat("psk,", 1+n%12), ","), one(true, times(1+n%12, Psk)...))
	}
}

// P15.1: a text that may not be is read all the same: that is Check's to tell.
func TestParseOfRules(t *testing.T) {
	readAs(t, "X:\n-> ee", one(true, EE))
	readAs(t, "X:\n<- e\n<- e", Pattern{"X", [2]bool{}, []Message{{false, []Token{E}}, {false, []Token{E}}}})
	readAs(t, "X:\n-> e, e, e", one(true, E, E, E))
	readAs(t, "X:\n-> psk, psk", one(true, Psk, Psk))
	readAs(t, "X:\n-> s\n...\n-> s", Pattern{"X", [2]bool{true, false}, []Message{{true, []Token{S}}}})
}

// P15.1: texts of 4096 bytes, and of 4097: wherever the bytes stand, and whether they are a pattern's or not.
func TestParseSizes(t *testing.T) {
	text := strings.Join(pieces(), "")
	for _, fill := range []string{" ", "\n"} {
		for at := range len(pieces()) + 1 {
			l := pieces()
			if fill == "\n" && at > 0 && at < len(l) && l[at-1] != "\n" && l[at] != "\n" {
				continue
			}
			for _, size := range []int{4000, 4095, 4096} {
				readAs(t, with(at, strings.Repeat(fill, size-len(text))), ofPieces())
			}
			for _, size := range []int{4097, 4098, 5000, 8192, 65536 + 100} {
				notRead(t, with(at, strings.Repeat(fill, size-len(text))), api.ErrArg)
			}
		}
	}
	for _, sign := range []string{" ", "\n", "x", ":", ",", "-> e\n", "X:\n", "...\n", "é", "\x00", "\xff"} {
		long := strings.Repeat(sign, 4097)
		notRead(t, long[:4096], api.ErrPattern)
		notRead(t, long[:4097], api.ErrArg)
		notRead(t, long, api.ErrArg)
	}
	// It is bytes that are counted.
	notRead(t, strings.Repeat("é", 2048), api.ErrPattern)
	notRead(t, strings.Repeat("é", 2048)+" ", api.ErrArg)
	notRead(t, strings.Repeat(" ", 1<<24), api.ErrArg)
	notRead(t, Text(ofPieces())+strings.Repeat("\n", 1<<22), api.ErrArg)
}

// asChapter is the form of a text that has its last line feed, blanks and empty lines wherever they may be.
var asChapter = func() *regexp.Regexp {
	const empty = `(?: *\n)*`
	const word = `(?:e|s|ee|es|se|ss|psk|e1|ekem|skem)`
	const message = ` *(?:->|<-) *` + word + `(?: *, *` + word + `){0,11} *\n` + empty
	const init, resp = ` *-> *s *\n` + empty, ` *<- *s *\n` + empty
	const known = `(?:((?:` + init + resp + `|` + init + `|` + resp + `)) *\.\.\. *\n` + empty + `)?`
	return regexp.MustCompile(`^` + empty + ` *([0-9A-Za-z]{1,32}) *: *\n` + empty + known + `((?:` + message + `){1,8}) *$`)
}()

// plainParse is the pattern of a text, by its form.
func plainParse(text string) (Pattern, api.Errno) {
	if len(text) > 4096 {
		return Pattern{}, api.ErrArg
	}
	found := asChapter.FindStringSubmatch(text + "\n")
	if found == nil {
		return Pattern{}, api.ErrPattern
	}
	p := Pattern{Name: found[1], Known: [2]bool{strings.Contains(found[2], "->"), strings.Contains(found[2], "<-")}}
	for _, line := range strings.Fields(strings.ReplaceAll(found[3], " ", "")) {
		m := Message{Init: line[0] == '-'}
		for _, word := range strings.Split(line[2:], ",") {
			m.Tokens = append(m.Tokens, Token(slices.Index(chapterWords, word)+1))
		}
		p.Messages = append(p.Messages, m)
	}
	return p, api.OK
}

// spaced is a pattern's text, with blanks and empty lines put in and left out.
func spaced(r *rand.Rand, text string) string {
	blanks := func() string { return strings.Repeat(" ", r.IntN(3)*r.IntN(2)) }
	out := ""
	for _, piece := range regexp.MustCompile(`[0-9A-Za-z]+|->|<-|\.\.\.|.|\n`).FindAllString(text, -1) {
		if piece == "\n" {
			out += blanks() + strings.Repeat("\n"+blanks(), 1+r.IntN(2)*r.IntN(3))
		} else if piece != " " {
			out += blanks() + piece
		}
	}
	if r.IntN(3) == 0 {
		out = strings.TrimRight(out, "\n ")
	}
	return out
}

// spoilt is a text with one thing in it changed.
func spoilt(r *rand.Rand, text string) string {
	at := r.IntN(len(text))
	to := min(len(text), at+1+r.IntN(4))
	signs := []string{" ", "\n", ",", ":", "e", "s", "->", "<-", "...", "\t", "1", "k", "psk", ", e", "\n-> s", "  <- s\n", "\n...\n", ".", "-", "é", "X:\n"}
	sign := signs[r.IntN(len(signs))]
	switch r.IntN(4) {
	case 0:
		return text[:at] + text[to:]
	case 1:
		return text[:at] + sign + text[to:]
	case 2:
		return text[:at] + text[at:to] + text[at:]
	}
	return text[:at] + sign + text[at:]
}

// P15.1: texts of all kinds, good ones and spoilt ones, are held to their form.
func TestParseOfMany(t *testing.T) {
	r := chance(1)
	count := map[api.Errno]int{}
	for i := range 20000 {
		text := spaced(r, Text(anyPattern(r, i%2 == 0)))
		for range r.IntN(3) {
			text = spoilt(r, text)
		}
		want, wantE := plainParse(text)
		got, e := Parse(text)
		if e != wantE || !reflect.DeepEqual(got, want) {
			t.Fatalf("Parse of %q: %v, error %d; want %v, error %d", text, got, int(e), want, int(wantE))
		}
		count[e]++
	}
	if count[api.OK] < 4000 || count[api.ErrPattern] < 4000 {
		t.Errorf("of one kind there are few: %v", count)
	}
}

// P15.1, P15.6: what Text tells is read as the pattern, and told again of what is read of any text.
func TestTextAndParse(t *testing.T) {
	r := chance(5)
	for i := range 6000 {
		p := anyPattern(r, i%2 == 0)
		text := Text(p)
		readAs(t, text, p)
		other := spaced(r, text)
		readAs(t, other, p)
		if got := Text(parsed(t, other)); got != text {
			t.Fatalf("Text of what was read of %q is %q, want %q", other, got, text)
		}
	}
	// The longest text there is may be read.
	p := many(8, times(12, Ekem)...)
	p.Name, p.Known = strings.Repeat("n", 32), [2]bool{true, true}
	readAs(t, Text(p), p)
}

// P15.1: whoever changes what was read changes nothing else of it, nor what is read next.
func TestParseNewMemory(t *testing.T) {
	text := Text(ofPieces())
	first, second := parsed(t, text), parsed(t, text)
	for i := range first.Messages {
		p := parsed(t, text)
		room := p.Messages[i].Tokens
		room = room[:cap(room)]
		for k := range room {
			room[k] = 77
		}
		p.Messages[i] = ofPieces().Messages[i]
		if !reflect.DeepEqual(p, ofPieces()) {
			t.Errorf("after message %d's tokens were changed: %v", i, p)
		}
		first.Messages[i].Tokens[0] = 77
		first.Messages[i].Init = !first.Messages[i].Init
	}
	if !reflect.DeepEqual(second, ofPieces()) {
		t.Errorf("after another one was changed: %v", second)
	}
	readAs(t, text, ofPieces())
}
