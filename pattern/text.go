package pattern

import (
	"slices"
	"strings"

	"redan/api"
)

// maxText is how many bytes a text has at most that is read.
const maxText = 4096

// The signs of a text beside its words.
const (
	blank     = " "
	indent    = blank + blank
	lineEnd   = "\n"
	nameEnd   = ":"
	knownEnd  = "..."
	separator = ","
)

// tokenWords are the tokens' words, each at its token's place.
var tokenWords = [Skem + 1]string{
	E: "e", S: "s", EE: "ee", ES: "es", SE: "se", SS: "ss", Psk: "psk", E1: "e1", Ekem: "ekem", Skem: "skem",
}

// arrows are what the initiator's and the responder's lines begin with, each at its side's place in Known.
var arrows = [2]string{"->", "<-"}

// linesOf are a text's lines that count, without the blanks at their ends.
func linesOf(text string) []string {
	var out []string
	for _, line := range strings.Split(text, lineEnd) {
		if line = strings.Trim(line, blank); line != "" {
			out = append(out, line)
		}
	}
	return out
}

// tokenOf is a word's token; 0, if it is no token's word.
func tokenOf(word string) Token {
	for t := E; t <= Skem; t++ {
		if tokenWords[t] == word {
			return t
		}
	}
	return 0
}

// readTokens are the tokens of what stands behind an arrow; false, if one of its words is none.
func readTokens(text string) ([]Token, bool) {
	var out []Token
	for _, word := range strings.Split(text, separator) {
		t := tokenOf(strings.Trim(word, blank))
		if t == 0 {
			return nil, false
		}
		out = append(out, t)
	}
	return out, true
}

// readMessage is the message of a line; false, if it is none.
func readMessage(line string) (Message, bool) {
	for side, arrow := range arrows {
		if rest, ok := strings.CutPrefix(line, arrow); ok {
			tokens, ok := readTokens(rest)
			return Message{Init: side == sideOf(true), Tokens: tokens}, ok
		}
	}
	return Message{}, false
}

// readMessages are the messages of lines; false, if one of them is none.
func readMessages(lines []string) ([]Message, bool) {
	var out []Message
	for _, line := range lines {
		m, ok := readMessage(line)
		if !ok {
			return nil, false
		}
		out = append(out, m)
	}
	return out, true
}

// tellsKnown tells whether a line says that the long-lived key of an arrow's side is known.
func tellsKnown(line, arrow string) bool {
	rest, ok := strings.CutPrefix(line, arrow)
	return ok && strings.Trim(rest, blank) == tokenWords[S]
}

// readKnown is Known of the lines ahead of the three dots; false, if they tell of nobody, or of anything else.
// The initiator's stands first: each side is asked for once, and a line that stands otherwise is left over.
func readKnown(lines []string) ([2]bool, bool) {
	var known [2]bool
	for side, arrow := range arrows {
		if len(lines) > 0 && tellsKnown(lines[0], arrow) {
			known[side] = true
			lines = lines[1:]
		}
	}
	return known, known != [2]bool{} && len(lines) == 0
}

// readName is what stands ahead of the colon that ends a pattern's first line; false, if there is none.
func readName(line string) (string, bool) {
	name, ok := strings.CutSuffix(line, nameEnd)
	// A piece of the text would keep all of it.
	return strings.Clone(strings.TrimRight(name, blank)), ok
}

// readBody puts what stands behind the first line into a pattern; false, if it may not stand there.
func readBody(p *Pattern, lines []string) bool {
	ok := true
	// Without the dots all lines are messages, those too that look as if they told of a known key.
	if end := slices.Index(lines, knownEnd); end >= 0 {
		p.Known, ok = readKnown(lines[:end])
		lines = lines[end+1:]
	}
	if !ok {
		return false
	}
	p.Messages, ok = readMessages(lines)
	return ok
}

// read is the pattern of lines that count; false, if they are of none that may be written.
func read(lines []string) (Pattern, bool) {
	if len(lines) == 0 {
		return Pattern{}, false
	}
	name, ok := readName(lines[0])
	p := Pattern{Name: name}
	if !ok || !readBody(&p, lines[1:]) || !writable(p) {
		return Pattern{}, false
	}
	return p, true
}

// Parse is the pattern of a text.
func Parse(text string) (Pattern, api.Errno) {
	if len(text) > maxText {
		return Pattern{}, api.ErrArg
	}
	p, ok := read(linesOf(text))
	if !ok {
		return Pattern{}, api.ErrPattern
	}
	return p, api.OK
}

// messageLine is the line in which a side says tokens.
func messageLine(side int, tokens []Token) string {
	var said []string
	for _, t := range tokens {
		said = append(said, tokenWords[t])
	}
	return indent + arrows[side] + blank + strings.Join(said, separator+blank)
}

// knownLines are the lines that tell whose keys are known; none, if nobody's is.
func knownLines(known [2]bool) []string {
	var out []string
	for side, is := range known {
		if is {
			out = append(out, messageLine(side, []Token{S}))
		}
	}
	if len(out) > 0 {
		out = append(out, indent+knownEnd)
	}
	return out
}

// Text is a pattern's text.
func Text(p Pattern) string {
	if !writable(p) {
		return ""
	}
	lines := append([]string{p.Name + nameEnd}, knownLines(p.Known)...)
	for _, m := range p.Messages {
		lines = append(lines, messageLine(sideOf(m.Init), m.Tokens))
	}
	return strings.Join(lines, lineEnd) + lineEnd
}
