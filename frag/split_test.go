package frag

import (
	"bytes"
	"testing"

	"redan/api"
)

// splits fails unless Split tells a message's pieces.
func splits(t testing.TB, message []byte) {
	t.Helper()
	got, e := Split(message)
	if e != api.OK {
		t.Fatalf("Split of %d bytes: error %d", len(message), int(e))
	}
	if want := (len(message) + 1023) / 1024; len(got) != want {
		t.Fatalf("Split of %d bytes: %d pieces, want %d", len(message), len(got), want)
	}
	for i, piece := range got {
		want := message[1024*i:]
		if i < len(got)-1 {
			want = want[:1024]
		}
		if !bytes.Equal(piece, want) {
			t.Fatalf("Split of %d bytes: piece %d has %d bytes, or others than the message's %d there", len(message), i, len(piece), len(want))
		}
	}
}

// refusesToSplit fails unless Split tells that error, and no piece.
func refusesToSplit(t testing.TB, message []byte, want api.Errno) {
	t.Helper()
	if got, e := Split(message); e != want || len(got) != 0 {
		t.Fatalf("Split of %d bytes: %d pieces, error %d, want none, error %d", len(message), len(got), int(e), int(want))
	}
}

// P19.1: the example.
func TestSplitExample(t *testing.T) {
	got, e := Split(mess("message", 1025))
	if e != api.OK || len(got) != 2 || len(got[0]) != 1024 || len(got[1]) != 1 {
		t.Fatalf("%d pieces, error %d", len(got), int(e))
	}
}

// P19.1: messages about each count of pieces.
func TestSplitSizes(t *testing.T) {
	whole := mess("message", 65536)
	for size := 1; size <= 3100; size++ {
		splits(t, whole[:size])
	}
	for pieces := range 65 {
		for by := -2; by <= 2; by++ {
			if size := 1024*pieces + by; size > 0 && size <= 65536 {
				splits(t, whole[:size])
			}
		}
	}
	splits(t, whole)
}

// P19.1: ErrArg of none, ErrLong of more than 65536, and no piece beside them.
func TestSplitRefuses(t *testing.T) {
	refusesToSplit(t, nil, api.ErrArg)
	refusesToSplit(t, []byte{}, api.ErrArg)
	refusesToSplit(t, mess("long", 9)[9:], api.ErrArg)
	for _, size := range []int{65537, 65538, 66560, 66561, 131072, 1 << 20, 1<<24 + 1} {
		refusesToSplit(t, make([]byte, size), api.ErrLong)
	}
}

// P19.1: messages of noughts have pieces too.
func TestSplitNoughts(t *testing.T) {
	for _, size := range []int{1, 1024, 1025, 65536} {
		splits(t, make([]byte, size))
	}
}

// P19.1: each piece is one that Add takes, and of them all comes the message.
func TestSplitIsAdded(t *testing.T) {
	whole := mess("message", 65536)
	for _, size := range []int{1, 2, 1023, 1024, 1025, 2047, 2048, 2049, 40000, 64512, 64513, 65535, 65536} {
		pieces, _ := Split(whole[:size])
		w := both(t, roomy())
		for part, piece := range pieces {
			got, e := w.add("p", 3, part, len(pieces), piece, 9)
			if e != api.OK || part < len(pieces)-1 && len(got) != 0 {
				t.Fatalf("piece %d of a message of %d: %d bytes, error %d", part, size, len(got), int(e))
			}
			if part == len(pieces)-1 && !bytes.Equal(got, whole[:size]) {
				t.Fatalf("a message of %d bytes comes to %d, or to others", size, len(got))
			}
		}
		w.counts(0, "message", size)
	}
}
