package session

import (
	"testing"

	"redan/api"
	"redan/sym"
)

// P22.3: Rekey and Expired, one moment ahead of their ages, at them and behind them.
func TestAgesByHand(t *testing.T) {
	r := wide()
	r.Rekey, r.Expire = 50, 120
	x := both(t, cipher(1, 0), cipher(2, 0), r, 1000)
	for _, c := range []struct {
		now            uint64
		rekey, expired bool
	}{
		{0, false, false}, {1, false, false}, {999, false, false}, {1000, false, false}, {1001, false, false},
		{1049, false, false}, {1050, true, false}, {1051, true, false},
		{1119, true, false}, {1120, true, true}, {1121, true, true}, {greatest, true, true},
	} {
		x.asks(c.now)
		if x.s.Rekey(c.now) != c.rekey || x.s.Expired(c.now) != c.expired {
			t.Errorf("at %d: %v, %v", c.now, x.s.Rekey(c.now), x.s.Expired(c.now))
		}
	}
}

// P22.3: at all edges of birth and ages.
func TestAgesAtEdges(t *testing.T) {
	for _, born := range edges() {
		for _, age := range edges() {
			r := wide()
			r.Rekey, r.Expire = age, age+1
			x := both(t, sym.Cipher{}, sym.Cipher{}, r, born)
			for _, now := range append(edges(), born-1, born, born+1, born+age-1, born+age, born+age+1, born+age+2) {
				x.asks(now)
			}
		}
	}
}

// P22.3: near the greatest time nothing turns over.
func TestAgesNearTheGreatestTime(t *testing.T) {
	r := wide()
	r.Rekey, r.Expire = 5, 6
	x := both(t, cipher(1, 0), cipher(2, 0), r, greatest-5)
	if x.s.Rekey(greatest-1) || !x.s.Rekey(greatest) || x.s.Expired(greatest) || x.s.Rekey(0) || x.s.Expired(100) {
		t.Error("born five moments ahead of the end")
	}
	x = both(t, cipher(1, 0), cipher(2, 0), wide(), 0)
	if x.s.Rekey(greatest-1) || !x.s.Rekey(greatest) || x.s.Expired(greatest-1) || !x.s.Expired(greatest) {
		t.Error("the greatest age")
	}
	x = both(t, cipher(1, 0), cipher(2, 0), wide(), 1)
	if x.s.Rekey(greatest) || x.s.Expired(greatest) {
		t.Error("the greatest age, one later")
	}
}

// P22.3: Rekey and Expired, one Seal ahead of their counts and at them; the moment doesn't matter.
func TestCounts(t *testing.T) {
	for rekey := range uint64(5) {
		for expire := range uint64(8) {
			r := wide()
			r.RekeyCount, r.ExpireCount = rekey, expire
			x := both(t, cipher(1, 0), cipher(2, 0), r, 10)
			for n := range expire + 2 {
				sent := min(n, expire)
				x.sentIs(sent)
				for _, now := range []uint64{0, 9, 10, 11, 1000, greatest} {
					x.asks(now)
					if x.s.Rekey(now) != (sent >= rekey) || x.s.Expired(now) != (sent >= expire) {
						t.Fatalf("%d sent, %d and %d: %v, %v", sent, rekey, expire, x.s.Rekey(now), x.s.Expired(now))
					}
				}
				x.seal([]byte("text"), 20)
			}
		}
	}
}

// P22.3: of ages and counts of 0 it is time from birth on.
func TestAgesAndCountsOfNought(t *testing.T) {
	for _, c := range []struct {
		name           string
		change         func(*Rules)
		rekey, expired bool
	}{
		{"none", func(r *Rules) {}, false, false},
		{"Rekey", func(r *Rules) { r.Rekey = 0 }, true, false},
		{"RekeyCount", func(r *Rules) { r.RekeyCount = 0 }, true, false},
		{"Expire", func(r *Rules) { r.Expire = 0 }, false, true},
		{"ExpireCount", func(r *Rules) { r.ExpireCount = 0 }, false, true},
		{"all", func(r *Rules) { *r = Rules{} }, true, true},
	} {
		r := wide()
		c.change(&r)
		x := both(t, cipher(1, 0), cipher(2, 0), r, 10)
		for _, now := range []uint64{0, 9, 10, 11, 500} {
			x.asks(now)
			if x.s.Rekey(now) != c.rekey || x.s.Expired(now) != c.expired {
				t.Errorf("%s at %d: %v, %v", c.name, now, x.s.Rekey(now), x.s.Expired(now))
			}
		}
		want := api.OK
		if c.expired {
			want = api.ErrExpired
		}
		x.seals(want, 0, []byte("text"), 10)
	}
}

// P22.3: only Seals that were OK are counted, none of those that were refused, and no Open.
func TestSentCountsWhatWasSealed(t *testing.T) {
	r := wide()
	r.Expire, r.ExpireCount = 100, 3
	x, y := ends(t, r, 0)
	x.sentIs(0)
	x.seals(api.ErrExpired, 0, []byte("late"), 100)
	x.sentIs(0)
	x.seals(api.OK, 0, []byte("one"), 99)
	x.sentIs(1)
	for n := range uint64(3) {
		box := y.seals(api.OK, n, row(20, int(n)), 5)
		x.opens(row(20, int(n)), n, box, 5)
		x.refuses(api.ErrReplay, n, box, 5)
		x.sentIs(1)
	}
	x.seals(api.OK, 1, nil, 99)
	x.seals(api.ErrExpired, 0, nil, 200)
	x.sentIs(2)
	x.seals(api.OK, 2, []byte("three"), 0)
	x.seals(api.ErrExpired, 0, []byte("four"), 0)
	x.sentIs(3)
}

// P22.3: what a cipher can't seal isn't counted, and doesn't come nearer to the counts.
func TestSentOfBadCiphers(t *testing.T) {
	for _, size := range []int{1, 16, 31, 33, 64} {
		r := wide()
		r.RekeyCount, r.ExpireCount = 1, 2
		x := both(t, sym.Cipher{Key: row(size, 1)}, cipher(2, 0), r, 0)
		for range 5 {
			x.seals(api.ErrArg, 0, []byte("text"), 0)
			x.sentIs(0)
		}
	}
}

// P22.3: N of the first cipher counts on, and has no part in what was sent; N of the second one has no meaning.
func TestNumberCountsOn(t *testing.T) {
	for _, first := range []uint64{0, 1, 7, 1 << 32, 1<<63 - 1, greatest - 10} {
		for _, second := range []uint64{0, 5, greatest - 1, greatest} {
			r := wide()
			r.ExpireCount = 6
			x := both(t, cipher(1, first), cipher(2, second), r, 0)
			y := both(t, cipher(2, second), cipher(1, 3), r, 0)
			for n := range uint64(6) {
				box := x.seals(api.OK, first+n, row(10, int(n)), 1)
				y.opens(row(10, int(n)), first+n, box, 1)
				x.sentIs(n + 1)
			}
			x.seals(api.ErrExpired, 0, nil, 1)
		}
	}
}

// P22.3: near the greatest number the numbers are used up one ahead of it; at it there are none.
func TestNumbersUsedUp(t *testing.T) {
	for left := range uint64(4) {
		x := both(t, cipher(1, greatest-left), cipher(2, 0), wide(), 0)
		y := both(t, cipher(2, 0), cipher(1, 0), wide(), 0)
		for n := range left {
			box := x.seals(api.OK, greatest-left+n, []byte("text"), 1)
			y.opens([]byte("text"), greatest-left+n, box, 1)
		}
		for range 3 {
			x.seals(api.ErrNonce, 0, []byte("text"), 1)
			x.sentIs(left)
		}
		if x.s.Expired(1) || x.s.Rekey(1) {
			t.Error("numbers that are used up are no age")
		}
	}
}

// P22.3: each session is born at its own moment, and counts its own.
func TestSessionsAreApart(t *testing.T) {
	r := wide()
	r.Expire, r.ExpireCount = 10, 2
	c, d := cipher(1, 0), cipher(2, 0)
	x, y := both(t, c, d, r, 0), both(t, c, d, r, 5)
	x.seals(api.OK, 0, []byte("text"), 1)
	x.seals(api.OK, 1, []byte("text"), 1)
	x.seals(api.ErrExpired, 0, []byte("text"), 1)
	y.sentIs(0)
	y.seals(api.OK, 0, []byte("text"), 14)
	if !x.s.Expired(10) || y.s.Expired(14) || !y.s.Expired(15) {
		t.Error("two sessions")
	}
	box := boxed(t, d.Key, 3, []byte("came"))
	x.opens([]byte("came"), 3, box, 5)
	y.opens([]byte("came"), 3, box, 5)
}
