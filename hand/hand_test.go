package hand

import (
	"bytes"
	"math/rand"
	"reflect"
	"slices"
	"strconv"
	"testing"

	"redan/api"
	"redan/pattern"
	"redan/sym"
)

// The chapter's examples.
func TestExamples(t *testing.T) {
	s, e := New(given(t, "NN"), true, nil, api.Pair{}, api.Pair{}, nil)
	if e != api.OK || s.Need() != 96 {
		t.Errorf("Need of NN's initiator at first: %d, error %d", s.Need(), int(e))
	}
	got, e := s.Read(nil)
	refuses(t, got, e, api.ErrState, "Read when it is one's own turn")
}

// P17.1 to P17.6: all patterns, both sides, through to the end, byte by byte as the chapter's words say; both have one
// Hash, and each one's cipher to send with is the other one's to receive with.
func TestThrough(t *testing.T) {
	for _, p := range patterns(t) {
		x := begun(t, p, []byte("prologue"))
		x.finish(t)
		if p.Name == "One" {
			continue
		}
		send, receive, _ := x.sides[0].Split()
		if bytes.Equal(send.Key, receive.Key) {
			t.Errorf("%s: one key for both ways", p.Name)
		}
	}
}

// P17.3: a message is as long as its tokens say.
func TestLengths(t *testing.T) {
	// Of `s` and `skem` behind a key, and of each payload behind a key, 16 more.
	want := map[string][]int{
		"IK":    {1088 + 32 + 1184 + 1216 + 16 + 16, 1088 + 1088 + 16 + 32 + 16},
		"KK":    {1088 + 32 + 1184 + 16, 1088 + 1088 + 16 + 32 + 16},
		"NK":    {1088 + 32 + 1184 + 16, 1088 + 32 + 16},
		"NN":    {32 + 1184, 1088 + 32 + 16},
		"NNpsk": {32 + 1184, 1088 + 32 + 16},
		"XX":    {32 + 1184, 1088 + 32 + 1216 + 16 + 16, 1088 + 16 + 1216 + 16 + 16, 1088 + 16 + 16},
	}
	for name, sizes := range want {
		x := begun(t, given(t, name), nil)
		for i, size := range sizes {
			writer, _ := x.next()
			message, e := twin(writer).Write(nil, x.chance())
			if e != api.OK || len(message) != size {
				t.Errorf("%s, message %d: %d bytes, error %d, want %d", name, i, len(message), int(e), size)
			}
			x.pass(t)
		}
	}
}

// P17.2: Turn, Done and Need ahead of each message and at the end.
func TestTurns(t *testing.T) {
	needs := map[string][]int{
		"IK": {128, 96}, "KK": {128, 96}, "NK": {128, 64}, "NN": {96, 64}, "NNpsk": {96, 64}, "XX": {96, 64, 32, 32},
		"I": {0, 64, 64, 0, 0}, "Plain": {96, 96}, "One": {32}, "Eight": {32, 64, 32, 32, 64, 32, 0, 0},
	}
	for _, p := range patterns(t) {
		x := begun(t, p, nil)
		for i := range len(p.Messages) + 1 {
			for k, s := range x.sides {
				turn, need := i < len(p.Messages) && k == i%2, 0
				if turn {
					need = x.w.need()
					if l := needs[p.Name]; l != nil && l[i] != need {
						t.Fatalf("%s, message %d: %d bytes of chance, not %d", p.Name, i, need, l[i])
					}
				}
				for range 2 {
					if s.Turn() != turn || s.Done() != (i == len(p.Messages)) || s.Need() != need {
						t.Errorf("%s, message %d, side %d: Turn %v, Done %v, Need %d, want %v, %v, %d", p.Name, i, k, s.Turn(), s.Done(), s.Need(), turn, i == len(p.Messages), need)
					}
				}
			}
			if !x.over() {
				x.pass(t)
			}
		}
	}
}

// P17.2: it is the next one's turn as soon as a message is written, or read, whatever the other side has done.
func TestTurnBehindOneSide(t *testing.T) {
	x := begun(t, given(t, "XX"), nil)
	message, e := x.sides[0].Write(nil, x.chance())
	if e != api.OK || x.sides[0].Turn() || x.sides[0].Need() != 0 || x.sides[1].Turn() {
		t.Fatalf("behind Write: Turn %v and %v, Need %d", x.sides[0].Turn(), x.sides[1].Turn(), x.sides[0].Need())
	}
	_, e = x.sides[1].Read(message)
	if e != api.OK || !x.sides[1].Turn() || x.sides[1].Need() != 64 || x.sides[0].Turn() {
		t.Fatalf("behind Read: Turn %v and %v, Need %d", x.sides[1].Turn(), x.sides[0].Turn(), x.sides[1].Need())
	}
}

// otherIs fails unless Other tells these keys, and nothing else.
func otherIs(t *testing.T, s *Shake, want api.Pair, of ...any) {
	t.Helper()
	got := s.Other()
	if len(got.Priv) != 0 || len(got.Dk) != 0 || !bytes.Equal(got.Pub, want.Pub) || !bytes.Equal(got.Ek, want.Ek) {
		t.Fatalf("Other %v: %d, %d, %d, %d bytes, want %d of Pub, %d of Ek, or others", of, len(got.Priv), len(got.Pub), len(got.Dk), len(got.Ek), len(want.Pub), len(want.Ek))
	}
}

// P17.5: Other tells the other side's long-lived keys from when they are known on, of each side ahead of each message.
func TestOther(t *testing.T) {
	const never = 99
	// By the initiator, by the responder: how many messages there were when it is told first.
	from := map[string][2]int{
		"IK": {0, 1}, "KK": {0, 0}, "NK": {0, never}, "NN": {never, never}, "NNpsk": {never, never}, "XX": {2, 3},
		"N": {0, never}, "K": {0, 0}, "KN": {never, 0}, "I": {2, 1}, "Plain": {2, 1}, "One": {never, never},
		"Psk": {never, 1}, "Psk1": {0, never}, "Eight": {never, never}, "ThisNameHas32LettersAndDigits123": {2, 1},
	}
	for _, p := range patterns(t) {
		x := begun(t, p, nil)
		for i := range len(p.Messages) + 1 {
			for k, keys := range []plainKeys{x.responder, x.initiator} {
				want := api.Pair{}
				if i >= from[p.Name][k] {
					want = keys.public()
				}
				otherIs(t, x.sides[k], want, p.Name, i, k)
			}
			if !x.over() {
				x.pass(t)
			}
		}
	}
}

// P17.5: ahead of the end there is no Hash, and Split is refused; at the end they tell the same, however often.
func TestEnd(t *testing.T) {
	for _, p := range patterns(t) {
		x := begun(t, p, []byte{1})
		for range len(p.Messages) {
			for k, s := range x.sides {
				if got := s.Hash(); len(got) != 0 {
					t.Fatalf("%s, message %d, side %d: Hash of %d bytes", p.Name, x.w.at, k, len(got))
				}
				a, b, e := s.Split()
				refuses(t, slices.Concat(a.Key, b.Key), e, api.ErrState, "Split", p.Name, x.w.at, k)
				if a.N != 0 || b.N != 0 {
					t.Fatalf("%s: Split ahead of the end: N %d, %d", p.Name, a.N, b.N)
				}
			}
			x.pass(t)
		}
		x.finish(t)
		x.finish(t)
	}
}

// P17.5: the writer of the last message is done, with its Hash and Split, ahead of who reads it.
func TestEndOfOneSide(t *testing.T) {
	x := begun(t, given(t, "NN"), nil)
	x.pass(t)
	if _, e := x.sides[1].Write(nil, x.chance()); e != api.OK {
		t.Fatalf("Write: error %d", int(e))
	}
	_, _, e := x.sides[1].Split()
	_, _, f := x.sides[0].Split()
	if e != api.OK || f != api.ErrState || !x.sides[1].Done() || x.sides[0].Done() || len(x.sides[1].Hash()) != 32 || len(x.sides[0].Hash()) != 0 {
		t.Errorf("Split: errors %d, %d; Done %v, %v", int(e), int(f), x.sides[1].Done(), x.sides[0].Done())
	}
}

// P17.6: what one seals with the cipher to send with, the other opens with the one to receive with, and with no other.
func TestCiphersMeet(t *testing.T) {
	for _, name := range pattern.Names() {
		x := begun(t, given(t, name), nil)
		x.finish(t)
		for i := range 2 {
			send, _, _ := x.sides[i].Split()
			sealed, e := send.Seal(nil, []byte("text"))
			if e != api.OK {
				t.Fatalf("Seal: error %d", int(e))
			}
			wrong, receive, _ := x.sides[1-i].Split()
			got, e := wrong.Open(nil, sealed)
			refuses(t, got, e, api.ErrAuth, "Open with the one to send with", name, i)
			got, e = receive.Open(nil, sealed)
			answers(t, got, e, []byte("text"), "Open", name, i)
		}
	}
}

// P17.2 to P17.5: of nil ErrArg, nothing, false and 0, whatever is handed in.
func TestNil(t *testing.T) {
	var s *Shake
	for _, b := range [][]byte{nil, mess("b", 96), mess("b", 32769), mess("b", 65537)} {
		got, e := s.Write(b, b)
		refuses(t, got, e, api.ErrArg, "Write of nil", len(b))
		got, e = s.Write(nil, b)
		refuses(t, got, e, api.ErrArg, "Write of nil", len(b))
		got, e = s.Read(b)
		refuses(t, got, e, api.ErrArg, "Read of nil", len(b))
	}
	if s.Turn() || s.Done() || s.Need() != 0 || len(s.Hash()) != 0 {
		t.Error("nil has a turn, or is done")
	}
	otherIs(t, s, api.Pair{}, "nil")
	a, b, e := s.Split()
	refuses(t, slices.Concat(a.Key, b.Key), e, api.ErrArg, "Split of nil")
	if a.N != 0 || b.N != 0 {
		t.Error("Split of nil has numbers")
	}
}

// Rule 1: a handshake that New didn't make has some answer.
func TestZeroShake(t *testing.T) {
	s := &Shake{}
	s.Turn()
	s.Done()
	s.Need()
	s.Write(nil, nil)
	s.Read(nil)
	s.Other()
	s.Hash()
	s.Split()
}

// drawn is a pattern without order that may be.
func drawn(chance *rand.Rand, number int) pattern.Pattern {
	p := pattern.Pattern{Name: "Drawn" + strconv.Itoa(number), Known: [2]bool{chance.Intn(3) == 0, chance.Intn(3) == 0}}
	for i := range 1 + chance.Intn(8) {
		m := pattern.Message{Init: i%2 == 0}
		for range 1 + chance.Intn(12) {
			for range 20 {
				tried := p
				with := append(slices.Clone(m.Tokens), pattern.Token(1+chance.Intn(10)))
				tried.Messages = append(slices.Clone(p.Messages), pattern.Message{Init: m.Init, Tokens: with})
				if pattern.Check(tried) == api.OK {
					m.Tokens = with
					break
				}
			}
		}
		if m.Tokens == nil {
			break
		}
		p.Messages = append(p.Messages, m)
	}
	return p
}

// P17.1 to P17.6, Q2: a handshake does what its tokens say, in their order, for patterns without order.
func TestDrawnPatterns(t *testing.T) {
	chance := rand.New(rand.NewSource(17))
	for i := range 60 {
		p := drawn(chance, i)
		x := begun(t, p, mess("prologue", i))
		x.finish(t)
	}
}

// Rule 4: the same calls have the same answers.
func TestSameAgain(t *testing.T) {
	for _, name := range []string{"IK", "XX", "NNpsk"} {
		a, b := begun(t, given(t, name), []byte("p")), begun(t, given(t, name), []byte("p"))
		a.finish(t)
		b.finish(t)
		for i := range 2 {
			if !same(a.sides[i], b.sides[i]) {
				t.Errorf("%s: two handshakes of one kind differ", name)
			}
		}
	}
}

// P17.6: sides that differ in their pattern's name, prologue, psk or keys don't come to one sum: the first message with
// a key isn't opened.
func TestSidesThatDiffer(t *testing.T) {
	a, b, c := someone(t, "the initiator"), someone(t, "the responder"), someone(t, "another one")
	psk := mess("psk", 32)
	type arguments struct {
		p                   pattern.Pattern
		prologue            []byte
		initiator, known    plainKeys
		responder, expected plainKeys
		psks                [2][]byte
		other               pattern.Pattern
		prologue2           []byte
	}
	right := func(name string) arguments {
		return arguments{given(t, name), []byte("p"), a, b, b, a, [2][]byte{psk, psk}, given(t, name), []byte("p")}
	}
	cases := map[string]func() arguments{
		"name":              func() arguments { x := right("NN"); x.other.Name = "NM"; return x },
		"prologue":          func() arguments { x := right("NN"); x.prologue2 = []byte("q"); return x },
		"no prologue":       func() arguments { x := right("NN"); x.prologue2 = nil; return x },
		"psk":               func() arguments { x := right("NNpsk"); x.psks[1] = turned(psk, 31, 1); return x },
		"responder's keys":  func() arguments { x := right("IK"); x.known = c; return x },
		"initiator's keys":  func() arguments { x := right("KK"); x.expected = c; return x },
		"responder's Pub":   func() arguments { x := right("NK"); x.known.pub = c.pub; return x },
		"responder's Ek":    func() arguments { x := right("NK"); x.known.ek = c.ek; return x },
		"initiator's Ek":    func() arguments { x := right("KK"); x.expected.ek = c.ek; return x },
		"initiator's Pub":   func() arguments { x := right("KK"); x.expected.pub = c.pub; return x },
		"a Pub's last bit":  func() arguments { x := right("NK"); x.known.pub = turned(b.pub, 31, 128); return x },
		"who knows of whom": func() arguments { x := right("KK"); x.expected = b; return x },
	}
	for name, of := range cases {
		x := of()
		s, e := New(x.p, true, x.prologue, x.initiator.whole(t), x.known.public(), x.psks[0])
		r, f := New(x.other, false, x.prologue2, x.responder.whole(t), x.expected.public(), x.psks[1])
		if e != api.OK || f != api.OK {
			t.Fatalf("%s: New: errors %d, %d", name, int(e), int(f))
		}
		message, e := s.Write(nil, mess("chance", s.Need()))
		if e != api.OK {
			t.Fatalf("%s: Write: error %d", name, int(e))
		}
		if x.p.Name != "NN" && x.p.Name != "NNpsk" {
			refusesToRead(t, r, message, api.ErrAuth, name)
			continue
		}
		if _, e := r.Read(message); e != api.OK {
			t.Fatalf("%s: Read: error %d", name, int(e))
		}
		message, e = r.Write(nil, mess("chance", r.Need()))
		if e != api.OK {
			t.Fatalf("%s: Write: error %d", name, int(e))
		}
		refusesToRead(t, s, message, api.ErrAuth, name)
	}
}

// P17.5: ciphers of Split are sym's, with nothing else in them.
func TestSplitIsSyms(t *testing.T) {
	x := begun(t, given(t, "NN"), nil)
	x.finish(t)
	first, second := (&sym.State{Ck: x.w.ck, H: x.w.h}).Split()
	send, receive, e := x.sides[0].Split()
	if e != api.OK || !reflect.DeepEqual([]sym.Cipher{send, receive}, []sym.Cipher{first, second}) {
		t.Error("Split isn't sym's")
	}
}
