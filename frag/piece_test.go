package frag

import (
	"bytes"
	"testing"

	"redan/api"
)

// said is a message of so many pieces, the last one of size bytes, and these pieces.
func said(seed string, parts, size int) ([]byte, [][]byte) {
	message := mess(seed, 1024*(parts-1)+size)
	var pieces [][]byte
	for i := range parts {
		pieces = append(pieces, message[1024*i:min(1024*(i+1), len(message))])
	}
	return message, pieces
}

// P19.3: the example: part 0 of 1 is the message, and nothing is kept.
func TestAddExample(t *testing.T) {
	for _, size := range []int{1, 2, 1023, 1024} {
		w := both(t, roomy())
		for msg := range 8 {
			w.tells(mess("message", size), "p", msg, 0, 1, mess("message", size), 7)
			w.has()
		}
	}
}

// P19.3: a message is whole with its last piece, whichever that is: the first one, the last one, one in between.
func TestWholeWithAnyPiece(t *testing.T) {
	for parts := 2; parts <= 64; parts++ {
		message, pieces := said("message", parts, 1+13*parts)
		for at := range parts {
			if parts > 6 && at > 1 && at < parts-2 && at != parts/2 {
				continue
			}
			w := both(t, roomy())
			for i, piece := range pieces {
				if i != at {
					w.adds(api.OK, "p", 5, i, parts, piece, 1)
				}
			}
			w.has(key{"p", 5})
			w.tells(message, "p", 5, at, parts, pieces[at], 1)
			w.has()
		}
	}
}

// P19.3: once a message is told its entry is gone: the same piece begins a new one, also with other parts and bytes.
func TestToldIsGone(t *testing.T) {
	message, pieces := said("message", 3, 5)
	w := both(t, roomy())
	for range 3 {
		w.adds(api.OK, "p", 0, 2, 3, pieces[2], 1)
		w.adds(api.OK, "p", 0, 0, 3, pieces[0], 2)
		w.tells(message, "p", 0, 1, 3, pieces[1], 3)
		w.adds(api.OK, "p", 0, 1, 3, pieces[1], 4)
		w.adds(api.ErrFrag, "p", 0, 1, 4, pieces[1], 4)
		w.adds(api.OK, "p", 0, 0, 3, pieces[0], 4)
		w.tells(message, "p", 0, 2, 3, pieces[2], 4)
	}
	w.adds(api.OK, "p", 0, 0, 2, full("other"), 4)
	w.tells(append(full("other"), 7), "p", 0, 1, 2, []byte{7}, 4)
}

// P19.3: peers and msgs have entries of their own.
func TestEntriesApart(t *testing.T) {
	w := both(t, roomy())
	pieces := map[key][][]byte{}
	messages := map[key][]byte{}
	var all []key
	for i, peer := range names() {
		for msg := range 8 {
			k := key{peer, msg}
			messages[k], pieces[k] = said("message of "+peer+string(rune('a'+msg)), 2+(i+msg)%3, 1+i+10*msg)
			all = append(all, k)
		}
	}
	for _, k := range all {
		parts := len(pieces[k])
		w.adds(api.OK, k.peer, k.msg, parts-1, parts, pieces[k][parts-1], 3)
	}
	w.has(all...)
	for i, k := range all {
		parts := len(pieces[k])
		for part := 1; part < parts-1; part++ {
			w.adds(api.OK, k.peer, k.msg, part, parts, pieces[k][part], 3)
		}
		w.tells(messages[k], k.peer, k.msg, 0, parts, pieces[k][0], 3)
		w.has(all[i+1:]...)
	}
}

// P19.3: a piece that came is nothing and OK, as often as it comes; it isn't counted twice.
func TestSamePieceTwice(t *testing.T) {
	message, pieces := said("message", 4, 20)
	w := both(t, roomy())
	for _, part := range []int{2, 3, 0} {
		for range 3 {
			w.adds(api.OK, "p", 1, part, 4, pieces[part], 1)
			w.counts(1, "twice", part)
		}
	}
	if w.b.Held("p") != 2068 || w.b.Total() != 2068 {
		t.Errorf("Held %d, Total %d", w.b.Held("p"), w.b.Total())
	}
	w.tells(message, "p", 1, 1, 4, pieces[1], 1)
}

// P19.3: ErrFrag of other bytes of a part that came: one bit, fewer, more; the entry stays as it was.
func TestOtherBytes(t *testing.T) {
	message, pieces := said("message", 3, 500)
	w := both(t, roomy())
	w.adds(api.OK, "p", 1, 0, 3, pieces[0], 1)
	w.adds(api.OK, "p", 1, 2, 3, pieces[2], 1)
	for _, part := range []int{0, 2} {
		for at := 0; at < len(pieces[part]); at++ {
			other := bytes.Clone(pieces[part])
			other[at] ^= 1 << (at % 8)
			w.adds(api.ErrFrag, "p", 1, part, 3, other, 1)
		}
		w.adds(api.ErrFrag, "p", 1, part, 3, make([]byte, len(pieces[part])), 1)
	}
	for _, size := range []int{1, 2, 499} {
		w.adds(api.ErrFrag, "p", 1, 2, 3, pieces[2][:size], 1)
	}
	w.adds(api.ErrFrag, "p", 1, 2, 3, append(bytes.Clone(pieces[2]), 0), 1)
	w.adds(api.ErrFrag, "p", 1, 2, 3, full("other"), 1)
	w.tells(message, "p", 1, 1, 3, pieces[1], 1)
}

// P19.3: other bytes of a part of bytes 0, and the other way round.
func TestNoughtsArePieces(t *testing.T) {
	w := both(t, roomy())
	w.adds(api.OK, "p", 0, 1, 3, make([]byte, 1024), 0)
	w.adds(api.OK, "p", 0, 2, 3, []byte{0}, 0)
	w.adds(api.OK, "p", 0, 1, 3, make([]byte, 1024), 0)
	w.adds(api.OK, "p", 0, 2, 3, []byte{0}, 0)
	w.adds(api.ErrFrag, "p", 0, 2, 3, []byte{0, 0}, 0)
	w.adds(api.ErrFrag, "p", 0, 2, 3, []byte{1}, 0)
	w.adds(api.ErrFrag, "p", 0, 1, 3, full("other"), 0)
	w.tells(make([]byte, 2049), "p", 0, 0, 3, make([]byte, 1024), 0)
}

// P19.3: ErrFrag of other parts, whether that piece came or not, whatever its bytes are.
func TestOtherParts(t *testing.T) {
	message, pieces := said("message", 5, 1024)
	w := both(t, roomy())
	w.adds(api.OK, "p", 4, 1, 5, pieces[1], 1)
	for parts := 1; parts <= 64; parts++ {
		if parts == 5 {
			continue
		}
		for part := range parts {
			w.adds(api.ErrFrag, "p", 4, part, parts, pieces[1], 1)
		}
		w.adds(api.ErrFrag, "p", 4, parts-1, parts, []byte{1}, 1)
	}
	w.has(key{"p", 4})
	for _, part := range []int{0, 2, 3} {
		w.adds(api.OK, "p", 4, part, 5, pieces[part], 1)
	}
	w.tells(message, "p", 4, 4, 5, pieces[4], 1)
}

// P19.3: what is refused by one entry may be another one's.
func TestFragOfOneEntry(t *testing.T) {
	w := both(t, roomy())
	w.adds(api.OK, "p", 4, 0, 2, full("a"), 1)
	w.adds(api.ErrFrag, "p", 4, 0, 3, full("a"), 1)
	w.adds(api.ErrFrag, "p", 4, 0, 2, full("b"), 1)
	w.adds(api.OK, "p", 5, 0, 3, full("a"), 1)
	w.adds(api.OK, "q", 4, 0, 2, full("b"), 1)
	w.adds(api.OK, "", 4, 0, 64, full("a"), 1)
	w.has(key{"p", 4}, key{"p", 5}, key{"q", 4}, key{"", 4})
}

// P19.3: ErrFrag, and nothing for what came, ahead of ErrRoom: a piece that came needs no room.
func TestFragAheadOfRoom(t *testing.T) {
	for _, l := range []Limits{{Peer: 1024, All: 5000}, {Peer: 5000, All: 1024}, {Peer: 1024, All: 1024}} {
		w := both(t, l)
		w.adds(api.OK, "p", 0, 0, 3, full("a"), 1)
		w.adds(api.OK, "p", 0, 0, 3, full("a"), 1)
		w.adds(api.ErrFrag, "p", 0, 0, 3, full("b"), 1)
		w.adds(api.ErrFrag, "p", 0, 1, 2, full("b"), 1)
		w.adds(api.ErrRoom, "p", 0, 1, 3, full("b"), 1)
		w.adds(api.OK, "p", 0, 0, 3, full("a"), 1)
		w.has(key{"p", 0})
	}
}

// P19.3: a piece that came lets no entry go, though there is no room for it again.
func TestSamePieceLetsNothingGo(t *testing.T) {
	w := both(t, Limits{Peer: 2048, All: 2048})
	w.adds(api.OK, "p", 0, 0, 3, full("a"), 1)
	w.adds(api.OK, "p", 1, 0, 3, full("b"), 1)
	for range 3 {
		w.adds(api.OK, "p", 0, 0, 3, full("a"), 1)
		w.adds(api.OK, "p", 1, 0, 3, full("b"), 1)
		w.adds(api.ErrFrag, "p", 1, 0, 3, full("c"), 1)
		w.adds(api.ErrFrag, "p", 1, 0, 2, full("b"), 1)
	}
	w.has(key{"p", 0}, key{"p", 1})
}
