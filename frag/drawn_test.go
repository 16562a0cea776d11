package frag

import (
	"math"
	"math/rand"
	"slices"
	"strconv"
	"testing"

	"redan/api"
)

// P19.5: pieces in any order, each one as often as it likes, make the message, as soon as all are there.
func TestAnyOrder(t *testing.T) {
	r := rand.New(rand.NewSource(1))
	for round := range 300 {
		parts := 1 + r.Intn(64)
		if round < 5 {
			parts = []int{1, 2, 3, 63, 64}[round]
		}
		message, pieces := said("message"+strconv.Itoa(round), parts, 1+r.Intn(1024))
		w := both(t, Limits{Peer: len(message), All: len(message)})
		order := append(r.Perm(parts), r.Perm(parts)...)
		r.Shuffle(len(order), func(i, j int) { order[i], order[j] = order[j], order[i] })
		came := map[int]bool{}
		for _, part := range order {
			came[part] = true
			if len(came) < parts {
				w.adds(api.OK, "p", 2, part, parts, pieces[part], 1)
				continue
			}
			w.tells(message, "p", 2, part, parts, pieces[part], 1)
			w.has()
			break
		}
	}
}

// P19.5: the same of all orders of up to five pieces.
func TestAllOrders(t *testing.T) {
	for parts := 1; parts <= 5; parts++ {
		message, pieces := said("message", parts, 77)
		var each func(order []int)
		each = func(order []int) {
			for part := range parts {
				if !slices.Contains(order, part) {
					each(append(slices.Clone(order), part))
				}
			}
			if len(order) < parts {
				return
			}
			w := both(t, Limits{Peer: len(message), All: len(message)})
			for i, part := range order[:parts-1] {
				w.adds(api.OK, "q", 6, part, parts, pieces[part], 3)
				w.adds(api.OK, "q", 6, order[i/2], parts, pieces[order[i/2]], 3)
			}
			w.tells(message, "q", 6, order[parts-1], parts, pieces[order[parts-1]], 3)
		}
		each(nil)
	}
}

// P19.5: messages of several peers and msgs at once, their pieces turned round and doubled, with just room for all.
func TestManyAtOnce(t *testing.T) {
	r := rand.New(rand.NewSource(2))
	type piece struct {
		k           key
		part, parts int
		body        []byte
	}
	for round := range 30 {
		messages := map[key][]byte{}
		var all []piece
		size := map[string]int{}
		total := 0
		for _, peer := range names() {
			for msg := range 8 {
				k := key{peer, msg}
				parts := 1 + r.Intn(6)
				message, pieces := said(strconv.Itoa(round)+peer+strconv.Itoa(msg), parts, 1+r.Intn(1024))
				messages[k] = message
				size[peer] += len(message)
				total += len(message)
				for part, body := range pieces {
					all = append(all, piece{k, part, parts, body})
				}
			}
		}
		most := 0
		for _, n := range size {
			most = max(most, n)
		}
		w := both(t, Limits{Peer: most, All: total, Age: 0})
		r.Shuffle(len(all), func(i, j int) { all[i], all[j] = all[j], all[i] })
		told := map[key]bool{}
		for i, x := range all {
			for _, y := range []piece{x, all[r.Intn(i+1)]} {
				if told[y.k] {
					continue
				}
				got, e := w.add(y.k.peer, y.k.msg, y.part, y.parts, y.body, 4)
				if e != api.OK || len(got) > 0 && string(got) != string(messages[y.k]) {
					t.Fatalf("%v: %d bytes, error %d", y.k, len(got), int(e))
				}
				told[y.k] = len(got) > 0
			}
		}
		if len(messages) != 8*len(names()) || w.b.Count() != 0 {
			t.Fatalf("%d entries are left", w.b.Count())
		}
		for k := range messages {
			if !told[k] {
				t.Fatalf("the message of %v isn't told", k)
			}
		}
	}
}

// draw goes through calls that a source of small numbers tells, and holds each one against the plain buffer.
func draw(w *pair, next func(n int) int, times []uint64) {
	w.t.Helper()
	peer := names()[next(3)]
	now := times[next(len(times))]
	switch next(20) {
	case 0:
		w.expire(now)
		return
	case 1:
		w.drop(peer)
		return
	}
	msg, parts := next(9), 1+next(4)
	if msg < 8 {
		msg %= 5
	}
	if next(8) > 0 {
		parts = 1 + msg%4 // so that entries mostly agree
	}
	part := next(parts)
	size := 1024
	if part == parts-1 {
		size = 1 + 97*next(11)
		if next(3) > 0 {
			size = 1 + 97*(msg+len(peer))
		}
	}
	if next(40) == 0 {
		part, size = next(6)-1, next(1026)
	}
	seed := "body" + strconv.Itoa(part)
	if next(16) == 0 {
		seed = "other"
	}
	w.add(peer, msg, part, parts, mess(seed, size), now)
}

// P19.2, P19.3, P19.5: whatever is called, in whatever order, is as the chapter's words say, and within the bounds.
func TestDrawn(t *testing.T) {
	r := rand.New(rand.NewSource(3))
	bounds := []int{-1, 0, 1, 500, 1024, 1500, 2048, 3000, 4096, 5000, 8192, 20000, math.MaxInt}
	for round := range 600 {
		l := Limits{Peer: bounds[r.Intn(len(bounds))], All: bounds[r.Intn(len(bounds))], Age: uint64(r.Intn(8))}
		at := uint64(0)
		switch round % 4 {
		case 1:
			at = math.MaxUint64 - 40
		case 2:
			at = 1<<63 - 20
		}
		if round%9 == 0 {
			l.Age = math.MaxUint64 - uint64(r.Intn(3))
		}
		w := both(t, l)
		for i := range 150 {
			// Time mostly goes on, but not always.
			var times []uint64
			for by := range 4 {
				times = append(times, at+uint64(i/8+by))
			}
			draw(w, r.Intn, times)
		}
	}
}

// FuzzDrawn holds calls that bytes tell against the plain buffer.
func FuzzDrawn(f *testing.F) {
	f.Add(uint16(3000), uint16(5000), uint64(3), mess("one", 200))
	f.Add(uint16(1024), uint16(1024), uint64(0), mess("two", 300))
	f.Add(uint16(65535), uint16(65535), uint64(math.MaxUint64), mess("three", 1000))
	f.Add(uint16(0), uint16(0), uint64(1), []byte{})
	f.Fuzz(func(t *testing.T, peer, all uint16, age uint64, b []byte) {
		if len(b) > 4000 {
			return
		}
		w := both(t, Limits{Peer: int(peer), All: int(all), Age: age})
		next := func(n int) int {
			if len(b) == 0 {
				return 0
			}
			x := int(b[0])
			b = b[1:]
			return x % n
		}
		for len(b) > 0 {
			draw(w, next, []uint64{0, 1, 2, 3, 4, 5, 9, math.MaxUint64})
		}
	})
}

// FuzzSplit holds Split, and Add of its pieces, against the message.
func FuzzSplit(f *testing.F) {
	for _, size := range []int{0, 1, 1023, 1024, 1025, 5000, 65536, 65537} {
		f.Add(mess("message", size), 3)
	}
	f.Fuzz(func(t *testing.T, message []byte, first int) {
		switch {
		case len(message) == 0:
			refusesToSplit(t, message, api.ErrArg)
			return
		case len(message) > 65536:
			refusesToSplit(t, message, api.ErrLong)
			return
		}
		splits(t, message)
		pieces, _ := Split(message)
		w := both(t, Limits{Peer: len(message), All: len(message)})
		for i := range pieces {
			part := (int(uint(first)%uint(len(pieces))) + i) % len(pieces)
			if i < len(pieces)-1 {
				w.adds(api.OK, "p", 0, part, len(pieces), pieces[part], 0)
				continue
			}
			w.tells(message, "p", 0, part, len(pieces), pieces[part], 0)
		}
	})
}
