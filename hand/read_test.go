package hand

import (
	"bytes"
	"slices"
	"testing"

	"redan/api"
	"redan/pattern"
)

// everyMessage goes through each message of each pattern: who is to read it, the message, its parts, and the plain one
// ahead of it; behind that the message is read, as if nothing had been.
func everyMessage(t *testing.T, do func(x *both, reader *Shake, message []byte, parts []part)) {
	t.Helper()
	for _, p := range patterns(t) {
		x := begun(t, p, nil)
		for !x.over() {
			_, reader := x.next()
			message, parts := x.w.copied().say(t, x.payload(), x.chance(), nil)
			do(x, reader, message, parts)
			x.pass(t)
		}
		x.finish(t)
	}
}

// P17.4: a message that ends too early, behind each part and within it, is refused, and nothing changes.
func TestReadOfCutMessages(t *testing.T) {
	everyMessage(t, func(x *both, reader *Shake, message []byte, parts []part) {
		name, at := x.w.p.Name, x.w.at
		last := parts[len(parts)-1]
		for _, part := range parts[:len(parts)-1] {
			for _, to := range []int{part.from, part.from + 1, (part.from + part.to) / 2, part.to - 17, part.to - 16, part.to - 1} {
				refusesToRead(t, reader, message[:to], api.ErrShort, "cut", name, at, to)
			}
		}
		if !last.keyed {
			for _, to := range []int{last.from, (last.from + last.to) / 2} {
				got, e := twin(reader).Read(message[:to])
				answers(t, got, e, message[last.from:to], "Read: a payload without a key, cut", name, at, to)
			}
			return
		}
		for left := range 16 {
			refusesToRead(t, reader, message[:last.from+left], api.ErrShort, "payload cut", name, at, left)
		}
		for to := last.from + 16; to < last.to; to++ {
			refusesToRead(t, reader, message[:to], api.ErrAuth, "payload cut", name, at, to)
		}
	})
}

// P17.4: a byte too many is the payload's: without a key it is told, with one it isn't opened.
func TestReadOfLongerMessages(t *testing.T) {
	everyMessage(t, func(x *both, reader *Shake, message []byte, parts []part) {
		longer := append(bytes.Clone(message), 9)
		if parts[len(parts)-1].keyed {
			refusesToRead(t, reader, longer, api.ErrAuth, "a byte too many", x.w.p.Name, x.w.at)
			return
		}
		got, e := twin(reader).Read(longer)
		answers(t, got, e, append(x.payload(), 9), "Read: a byte more", x.w.p.Name, x.w.at)
	})
}

// P17.4: a byte turned in any part of a message with a key isn't opened, and nothing changes; without a key the two
// sides part ways.
func TestReadOfTurnedMessages(t *testing.T) {
	everyMessage(t, func(x *both, reader *Shake, message []byte, parts []part) {
		for _, part := range parts {
			var places []int
			for _, at := range []int{part.from, (part.from + part.to) / 2, part.to - 17, part.to - 16, part.to - 1} {
				if part.from <= at && at < part.to {
					places = append(places, at)
				}
			}
			switch {
			case part.token == pattern.E1:
				places = []int{part.to - 32, part.to - 1} // its numbers might be too great then
			case part.token == pattern.S && !part.keyed:
				places = []int{part.from, part.from + 31, part.to - 32, part.to - 1}
			}
			for _, at := range places {
				bad := turned(message, at, 128)
				if parts[len(parts)-1].keyed {
					refusesToRead(t, reader, bad, api.ErrAuth, "turned", x.w.p.Name, x.w.at, part.token, at)
					continue
				}
				s := twin(reader)
				_, e := s.Read(bad)
				right := twin(reader)
				right.Read(message)
				if e != api.OK || bytes.Equal(s.state.H, right.state.H) {
					t.Fatalf("%s, message %d: turned at %d: error %d, or the same sum", x.w.p.Name, x.w.at, at, int(e))
				}
			}
		}
	})
}

// P17.4: messages of no bytes, of bytes 0 and of bytes 255, of all sizes about the parts' ends.
func TestReadOfOtherMessages(t *testing.T) {
	everyMessage(t, func(x *both, reader *Shake, message []byte, parts []part) {
		keyed := parts[len(parts)-1].keyed
		if keyed || len(parts) > 1 {
			refusesToRead(t, reader, nil, api.ErrShort, "no bytes", x.w.p.Name, x.w.at)
			refusesToRead(t, reader, []byte{}, api.ErrShort, "no bytes", x.w.p.Name, x.w.at)
		}
		if !keyed {
			return
		}
		for _, c := range []byte{0, 255} {
			bad := bytes.Repeat([]byte{c}, len(message))
			before := twin(reader)
			got, e := reader.Read(bad)
			if e != api.ErrAuth && e != api.ErrZero && e != api.ErrKey || len(got) != 0 || !same(before, reader) {
				t.Fatalf("%s, message %d of bytes %d: error %d, %d bytes, or something changed", x.w.p.Name, x.w.at, c, int(e), len(got))
			}
		}
	})
}

// P17.4: messages of 65536 bytes are read, with a key and without one; those of one more are too long, ahead of all that
// else isn't right with them.
func TestReadOfLongMessages(t *testing.T) {
	for _, p := range patterns(t) {
		x := begun(t, p, nil)
		for !x.over() {
			_, reader := x.next()
			_, parts := x.w.copied().say(t, nil, x.chance(), nil)
			last := parts[len(parts)-1]
			for _, size := range []int{65535, 65536, 65537, 65538} {
				payload := mess("payload", size-last.to)
				message, _ := x.w.copied().say(t, payload, x.chance(), nil)
				if len(message) != size {
					t.Fatalf("%s: %d bytes, not %d", p.Name, len(message), size)
				}
				if size > 65536 {
					refusesToRead(t, reader, message, api.ErrLong, "long", p.Name, x.w.at, size)
					refusesToRead(t, reader, make([]byte, size), api.ErrLong, "bytes 0", p.Name, x.w.at, size)
					refusesToRead(t, reader, bytes.Repeat([]byte{255}, size), api.ErrLong, "bytes 255", p.Name, x.w.at, size)
					continue
				}
				got, e := twin(reader).Read(message)
				answers(t, got, e, payload, "Read: long", p.Name, x.w.at, size)
			}
			x.pass(t)
		}
		x.finish(t)
	}
}

// P17.4: Read when it is one's own turn, and at the end, is refused, ahead of all else; and nothing changes.
func TestReadOutOfTurn(t *testing.T) {
	for _, p := range patterns(t) {
		x := begun(t, p, nil)
		for !x.over() {
			writer, _ := x.next()
			message, _ := x.w.copied().say(t, nil, x.chance(), nil)
			for _, b := range [][]byte{message, nil, mess("message", 65537)} {
				refusesToRead(t, writer, b, api.ErrState, "one's own turn", p.Name, x.w.at, len(b))
			}
			x.pass(t)
		}
		for i, s := range x.sides {
			for _, size := range []int{0, 1216, 65536, 65537} {
				refusesToRead(t, s, mess("message", size), api.ErrState, "at the end", p.Name, i, size)
			}
		}
		x.finish(t)
	}
}

// P17.4: the same message read twice: behind it is one's own turn, or the end; and a later message is another one.
func TestReadTwice(t *testing.T) {
	for _, p := range patterns(t) {
		x := begun(t, p, nil)
		var messages [][]byte
		for !x.over() {
			_, reader := x.next()
			for i, old := range messages {
				before := twin(reader)
				if got, e := twin(reader).Read(old); e == api.OK && x.w.key != nil {
					t.Fatalf("%s: message %d read as message %d: %d bytes", p.Name, i, x.w.at, len(got))
				}
				if !same(before, reader) {
					t.Fatal("a twin shares memory")
				}
			}
			message, _ := x.w.copied().say(t, x.payload(), x.chance(), nil)
			x.pass(t)
			refusesToRead(t, reader, message, api.ErrState, "twice", p.Name, x.w.at)
			messages = append(messages, message)
		}
		x.finish(t)
	}
}

// P17.4: an Ek in a message that kem.Check refuses: by `e1`, by `s` without a key, and by `s` that was rightly sealed.
func TestReadOfBadEks(t *testing.T) {
	for _, of := range []struct {
		text  string
		at    int
		token pattern.Token
	}{
		{"NN:\n-> e, e1\n<- ekem, e, ee\n", 0, pattern.E1},
		{"A:\n-> e\n<- e, ee, e1\n", 1, pattern.E1},
		{"B:\n-> s, e\n", 0, pattern.S},
		{"XX:\n-> e, e1\n<- ekem, e, ee, s, es\n-> skem, s, se\n<- skem\n", 1, pattern.S},
		{"XX:\n-> e, e1\n<- ekem, e, ee, s, es\n-> skem, s, se\n<- skem\n", 2, pattern.S},
	} {
		x := begun(t, parsed(t, of.text), nil)
		x.passTo(t, of.at)
		_, reader := x.next()
		for _, place := range []int{0, 1, 2, 255, 256, 511, 512, 766, 767} {
			alter := func(token pattern.Token, b []byte) []byte {
				if token != of.token {
					return b
				}
				ek := len(b) - 1184
				return join(b[:ek], badEk(b[ek:], place))
			}
			bad, parts := x.w.copied().say(t, nil, x.chance(), alter)
			i := slices.IndexFunc(parts, func(p part) bool { return p.token == of.token })
			refusesToRead(t, reader, bad, api.ErrKey, "a bad Ek", of.text, of.at, place)
			refusesToRead(t, reader, bad[:parts[i].to], api.ErrKey, "a bad Ek, and nothing behind it", of.text, of.at, place)
			refusesToRead(t, reader, bad[:parts[i].to-1], api.ErrShort, "a bad Ek without its last byte", of.text, of.at, place)
			if parts[i].keyed {
				refusesToRead(t, reader, turned(bad, parts[i].to-1, 1), api.ErrAuth, "a bad Ek that isn't opened", of.text, of.at, place)
				refusesToRead(t, reader, turned(bad, parts[i].from, 1), api.ErrAuth, "a bad Ek that isn't opened", of.text, of.at, place)
			}
			if of.at == 0 || of.token == pattern.S {
				otherIs(t, reader, api.Pair{}, "behind a bad Ek")
			}
		}
		x.finish(t)
	}
}

// P17.4: a Pub in a message of small order, so that a secret is nought: by `e`, by `s`, with a key and without one.
func TestReadOfNoughts(t *testing.T) {
	for _, of := range []struct {
		text  string
		at    int
		token pattern.Token
	}{
		{"NN:\n-> e, e1\n<- ekem, e, ee\n", 1, pattern.E},
		{"A:\n-> s\n<- e, se, s, skem\n", 1, pattern.E},
		{"B:\n-> s\n<- s, ss\n", 1, pattern.S},
		{"C:\n<- s\n...\n-> e, es\n", 0, pattern.E},
		{"D:\n<- s\n...\n-> skem, s, ss\n", 0, pattern.S},
		{"XX:\n-> e, e1\n<- ekem, e, ee, s, es\n-> skem, s, se\n<- skem\n", 1, pattern.S},
		{"XX:\n-> e, e1\n<- ekem, e, ee, s, es\n-> skem, s, se\n<- skem\n", 2, pattern.S},
		{"XX:\n-> e, e1\n<- ekem, e, ee, s, es\n-> skem, s, se\n<- skem\n", 1, pattern.E},
	} {
		x := begun(t, parsed(t, of.text), nil)
		x.passTo(t, of.at)
		_, reader := x.next()
		for i, point := range smallOrder() {
			alter := func(token pattern.Token, b []byte) []byte {
				if token != of.token {
					return b
				}
				return join(point, b[32:])
			}
			bad, parts := x.w.copied().say(t, nil, x.chance(), alter)
			end := parts[slices.IndexFunc(parts, func(p part) bool { return p.token == of.token })].to
			refusesToRead(t, reader, bad, api.ErrZero, "a secret of noughts", of.text, of.at, i)
			refusesToRead(t, reader, bad[:end], api.ErrZero, "a secret of noughts, and nothing behind it", of.text, of.at, i)
			refusesToRead(t, reader, bad[:end-1], api.ErrShort, "a Pub that is cut", of.text, of.at, i)
		}
		x.finish(t)
	}
}

// P17.4: a Pub of small order is taken as long as no secret is made of it; one that came ahead of the message makes the
// next one's secret nought, whatever that message is.
func TestReadOfEarlierNoughts(t *testing.T) {
	p := parsed(t, "X:\n-> e\n<- e\n-> ee\n")
	for i, point := range smallOrder() {
		x := begun(t, p, nil)
		message, _ := x.w.say(t, nil, x.chance(), func(_ pattern.Token, _ []byte) []byte { return point })
		got, e := x.sides[1].Read(message)
		answers(t, got, e, nil, "Read of a point of small order", i)
		if _, e := x.sides[1].Write(nil, x.chance()); e != api.OK {
			t.Fatalf("Write: error %d", int(e))
		}
		for _, b := range [][]byte{nil, make([]byte, 15), make([]byte, 16), make([]byte, 65536)} {
			refusesToRead(t, x.sides[1], b, api.ErrZero, "a secret of noughts", i, len(b))
		}
		refusesToRead(t, x.sides[1], make([]byte, 65537), api.ErrLong, "a secret of noughts", i)
	}
}

// P17.4: where several errors may be told, the first token's is.
func TestFirstErrors(t *testing.T) {
	x := begun(t, given(t, "XX"), nil)
	x.pass(t)
	message, parts := x.w.copied().say(t, nil, x.chance(), nil)
	places := map[pattern.Token]part{}
	for _, p := range parts {
		places[p.token] = p
	}
	r := x.sides[0]
	s := places[pattern.S]
	bad := turned(message, s.to-1, 1)
	refusesToRead(t, r, bad[:s.to], api.ErrAuth, "s isn't opened, ahead of a payload that is missing")
	refusesToRead(t, r, bad[:s.to-1], api.ErrShort, "s is cut, ahead of its tag that isn't right")
	noughts := join(message[:places[pattern.E].from], make([]byte, 32), message[places[pattern.E].to:])
	refusesToRead(t, r, noughts, api.ErrZero, "ee of noughts, ahead of s that isn't opened")
	refusesToRead(t, r, noughts[:s.from], api.ErrZero, "ee of noughts, ahead of s that is missing")
	box := turned(noughts, 0, 1)
	refusesToRead(t, r, box, api.ErrZero, "ee of noughts, behind a box that was turned")
	refusesToRead(t, r, turned(message, 0, 1), api.ErrAuth, "a box that was turned")
	refusesToRead(t, r, turned(message, 0, 1)[:s.from+100], api.ErrShort, "a box that was turned, s is cut")
	x.finish(t)
}

// P17.4: bytes that no Encaps made are no error of Decaps: the secret that comes of them is mixed.
func TestReadOfOtherBoxes(t *testing.T) {
	for _, name := range []string{"IK", "KK", "NN", "XX"} {
		x := begun(t, given(t, name), nil)
		for !x.over() {
			_, reader := x.next()
			alter := func(token pattern.Token, b []byte) []byte {
				if token == pattern.Ekem || token == pattern.Skem {
					return mess("box", 1088)
				}
				return b
			}
			message, _ := x.w.copied().say(t, []byte("text"), x.chance(), alter)
			got, e := twin(reader).Read(message)
			answers(t, got, e, []byte("text"), "Read of other boxes", name, x.w.at)
			x.pass(t)
		}
	}
}

// P17.4: a message of another pattern, of another handshake or of the other side isn't opened.
func TestReadOfOthersMessages(t *testing.T) {
	x, y := begun(t, given(t, "IK"), []byte("one")), begun(t, given(t, "IK"), []byte("two"))
	message, _ := y.w.say(t, nil, y.chance(), nil)
	refusesToRead(t, x.sides[1], message, api.ErrAuth, "another prologue's")
	y = begun(t, given(t, "KK"), []byte("one"))
	message, _ = y.w.say(t, nil, y.chance(), nil)
	refusesToRead(t, x.sides[1], message, api.ErrShort, "another pattern's")
	x.pass(t)
	own, _ := begun(t, given(t, "IK"), []byte("one")).w.say(t, nil, mess("chance", 128), nil)
	refusesToRead(t, x.sides[0], own, api.ErrAuth, "the own side's")
	x.finish(t)
}
