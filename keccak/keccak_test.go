package keccak

import (
	"math"
	"math/bits"
	"testing"
)

// state is a state that looks like chance, another one for each seed.
func state(seed uint64) [25]uint64 {
	var out [25]uint64
	x := seed*0x9e3779b97f4a7c15 + 1
	for i := range out {
		x ^= x << 13
		x ^= x >> 7
		x ^= x << 17
		out[i] = x * 0x2545f4914f6cdd1d
	}
	return out
}

// states are noughts, ones, and ordinary states.
func states() [][25]uint64 {
	var ones [25]uint64
	for i := range ones {
		ones[i] = math.MaxUint64
	}
	out := [][25]uint64{{}, ones}
	for seed := range uint64(20) {
		out = append(out, state(seed))
	}
	return out
}

// single is the state in which just the bit at x, y, z is 1.
func single(x, y, z int) [25]uint64 {
	var out [25]uint64
	out[x+5*y] = 1 << z
	return out
}

// bit is the bit at x, y, z, each counted by its rest.
func bit(a [25]uint64, x, y, z int) uint64 {
	x, y, z = rest(x, 5), rest(y, 5), rest(z, 64)
	return a[x+5*y] >> z & 1
}

// rest is the rest of n by m, from 0 on.
func rest(n, m int) int { return (n%m + m) % m }

// add is the sum of two states, bit by bit.
func add(a, b [25]uint64) [25]uint64 {
	for i := range a {
		a[i] ^= b[i]
	}
	return a
}

// ones is how many bits of a state are 1.
func ones(a [25]uint64) int {
	n := 0
	for _, lane := range a {
		n += bits.OnesCount64(lane)
	}
	return n
}

// byBits makes a state by a rule that tells each bit.
func byBits(rule func(x, y, z int) uint64) [25]uint64 {
	var out [25]uint64
	for y := range 5 {
		for x := range 5 {
			for z := range 64 {
				out[x+5*y] |= rule(x, y, z) << z
			}
		}
	}
	return out
}

// plainTheta, plainRho, plainPi, plainChi and plainIota say the promises' words bit by bit, without tables.
func plainTheta(a [25]uint64) [25]uint64 {
	return byBits(func(x, y, z int) uint64 {
		sum := bit(a, x, y, z)
		for other := range 5 {
			sum ^= bit(a, x-1, other, z) ^ bit(a, x+1, other, z-1)
		}
		return sum
	})
}

func plainRho(a [25]uint64) [25]uint64 {
	var out [25]uint64
	out[0] = a[0]
	x, y := 1, 0
	for t := range 24 {
		for z := range 64 {
			to := rest(z+(t+1)*(t+2)/2, 64)
			out[x+5*y] |= bit(a, x, y, z) << to
		}
		x, y = y, rest(2*x+3*y, 5)
	}
	return out
}

func plainPi(a [25]uint64) [25]uint64 {
	return byBits(func(x, y, z int) uint64 { return bit(a, x+3*y, x, z) })
}

func plainChi(a [25]uint64) [25]uint64 {
	return byBits(func(x, y, z int) uint64 {
		sum := bit(a, x, y, z)
		if bit(a, x+1, y, z) == 0 && bit(a, x+2, y, z) == 1 {
			sum ^= 1
		}
		return sum
	})
}

// rc is the first bit of the row after t steps.
func rc(t int) byte {
	row := []byte{1, 0, 0, 0, 0, 0, 0, 0}
	for range rest(t, 255) {
		row = append([]byte{0}, row...)
		for _, i := range []int{0, 4, 5, 6} {
			row[i] ^= row[8]
		}
		row = row[:8]
	}
	return row[0]
}

func plainIota(a [25]uint64, round int) [25]uint64 {
	if round < 0 || round > 23 {
		return a
	}
	for j := range 7 {
		a[0] ^= uint64(rc(j+7*round)) << (1<<j - 1)
	}
	return a
}

// steps are the steps that know no round, beside what the promise says of them.
func steps() map[string][2]func([25]uint64) [25]uint64 {
	return map[string][2]func([25]uint64) [25]uint64{
		"Theta": {Theta, plainTheta},
		"Rho":   {Rho, plainRho},
		"Pi":    {Pi, plainPi},
		"Chi":   {Chi, plainChi},
	}
}

// outside are rounds that there aren't.
func outside() []int {
	return []int{math.MinInt, -256, -24, -2, -1, 24, 25, 48, 255, 256, math.MaxInt}
}

// P2.1: each of the four steps, on ordinary states, noughts and ones.
func TestSteps(t *testing.T) {
	for name, step := range steps() {
		for i, a := range states() {
			if got, want := step[0](a), step[1](a); got != want {
				t.Errorf("%s of state %d: %x, want %x", name, i, got, want)
			}
		}
	}
}

// P2.1: each bit's way through the four steps, one bit at a time.
func TestEachBit(t *testing.T) {
	for name, step := range steps() {
		for y := range 5 {
			for x := range 5 {
				for z := range 64 {
					a := single(x, y, z)
					if got, want := step[0](a), step[1](a); got != want {
						t.Fatalf("%s of the bit at %d, %d, %d: %x, want %x", name, x, y, z, got, want)
					}
				}
			}
		}
	}
}

// P2.1: places that were worked out by hand.
func TestStepsByHand(t *testing.T) {
	theta := single(0, 0, 63)
	for y := range 5 {
		theta[1+5*y] ^= 1 << 63
		theta[4+5*y] ^= 1
	}
	if got := Theta(single(0, 0, 63)); got != theta {
		t.Errorf("Theta of the bit at 0, 0, 63: %x, want %x", got, theta)
	}
	for _, c := range []struct{ x, y, z, to int }{
		{0, 0, 0, 0}, {0, 0, 63, 63}, {1, 0, 0, 1}, {1, 0, 63, 0}, {0, 2, 0, 3}, {2, 1, 0, 6}, {1, 1, 63, 43}, {4, 4, 0, 14},
	} {
		if got, want := Rho(single(c.x, c.y, c.z)), single(c.x, c.y, c.to); got != want {
			t.Errorf("Rho of the bit at %d, %d, %d: %x, want %x", c.x, c.y, c.z, got, want)
		}
	}
	for _, c := range []struct{ x, y, toX, toY int }{
		{0, 0, 0, 0}, {1, 1, 1, 0}, {1, 0, 0, 2}, {3, 0, 0, 1}, {4, 4, 4, 0},
	} {
		if got, want := Pi(single(c.x, c.y, 5)), single(c.toX, c.toY, 5); got != want {
			t.Errorf("Pi of the lane at %d, %d: %x, want %x", c.x, c.y, got, want)
		}
	}
	if got, want := Chi(single(2, 3, 7)), add(single(2, 3, 7), single(0, 3, 7)); got != want {
		t.Errorf("Chi of the bit at 2, 3, 7: %x, want %x", got, want)
	}
	if got, want := Chi(add(single(1, 3, 7), single(2, 3, 7))), add(single(1, 3, 7), add(single(2, 3, 7), single(4, 3, 7))); got != want {
		t.Errorf("Chi of the bits at 1 and 2, 3, 7: %x, want %x", got, want)
	}
}

// P2.1: of noughts the four steps are noughts.
func TestStepsOfNoughts(t *testing.T) {
	var noughts [25]uint64
	for name, step := range steps() {
		if got := step[0](noughts); got != noughts {
			t.Errorf("%s of noughts: %x", name, got)
		}
	}
}

// P2.2: Iota of each round, the first and the last among them.
func TestIota(t *testing.T) {
	for round := range 24 {
		for i, a := range states() {
			if got, want := Iota(a, round), plainIota(a, round); got != want {
				t.Errorf("Iota of state %d, round %d: %x, want %x", i, round, got, want)
			}
		}
	}
	for _, c := range []struct {
		round int
		want  uint64
	}{
		{0, 1}, {1, 0x8082}, {23, 0x8000000080008008},
	} {
		if got, want := Iota([25]uint64{}, c.round), ([25]uint64{c.want}); got != want {
			t.Errorf("Iota of noughts, round %d: %x, want %x", c.round, got, want)
		}
	}
}

// P2.2, P2.3: of a round that there isn't Iota and Round are the state itself.
func TestOtherRounds(t *testing.T) {
	for _, round := range outside() {
		for i, a := range states() {
			if got := Iota(a, round); got != a {
				t.Errorf("Iota of state %d, round %d: %x, want %x", i, round, got, a)
			}
			if got := Round(a, round); got != a {
				t.Errorf("Round of state %d, round %d: %x, want %x", i, round, got, a)
			}
		}
	}
}

// plainRound is a round by the promises' words.
func plainRound(a [25]uint64, round int) [25]uint64 {
	return plainIota(plainChi(plainPi(plainRho(plainTheta(a)))), round)
}

// P2.3: Round is the five steps, one on the other, in each round.
func TestRound(t *testing.T) {
	for round := range 24 {
		for i, a := range states() {
			if got, want := Round(a, round), plainRound(a, round); got != want {
				t.Errorf("Round of state %d, round %d: %x, want %x", i, round, got, want)
			}
		}
	}
	if got, want := Round([25]uint64{}, 0), ([25]uint64{1}); got != want {
		t.Errorf("Round of noughts, 0: %x, want %x", got, want)
	}
}

// P2.3: F is the rounds 0 to 23.
func TestF(t *testing.T) {
	for i, a := range states() {
		want := a
		for round := range 24 {
			want = plainRound(want, round)
		}
		if got := F(a); got != want {
			t.Errorf("F of state %d: %x, want %x", i, got, want)
		}
	}
}

// P2.3: F of noughts, and F of that, as they are known.
func TestFKnown(t *testing.T) {
	once := F([25]uint64{})
	if want := ([25]uint64{
		0xf1258f7940e1dde7, 0x84d5ccf933c0478a, 0xd598261ea65aa9ee, 0xbd1547306f80494d, 0x8b284e056253d057,
		0xff97a42d7f8e6fd4, 0x90fee5a0a44647c4, 0x8c5bda0cd6192e76, 0xad30a6f71b19059c, 0x30935ab7d08ffc64,
		0xeb5aa93f2317d635, 0xa9a6e6260d712103, 0x81a57c16dbcf555f, 0x43b831cd0347c826, 0x01f22f1a11a5569f,
		0x05e5635a21d9ae61, 0x64befef28cc970f2, 0x613670957bc46611, 0xb87c5a554fd00ecb, 0x8c3ee88a1ccf32c8,
		0x940c7922ae3a2614, 0x1841f924a2c509e4, 0x16f53526e70465c2, 0x75f644e97f30a13b, 0xeaf1ff7b5ceca249,
	}); once != want {
		t.Errorf("F of noughts: %x, want %x", once, want)
	}
	if got, want := F(once)[0], uint64(0x2d5c954df96ecb3c); got != want {
		t.Errorf("F of F of noughts, lane 0: %x, want %x", got, want)
	}
}

// P2.4: Theta, Rho and Pi of a sum are the sums of theirs.
func TestSums(t *testing.T) {
	all := states()
	for name, step := range map[string]func([25]uint64) [25]uint64{"Theta": Theta, "Rho": Rho, "Pi": Pi} {
		for i, a := range all {
			for j, b := range all {
				if got, want := step(add(a, b)), add(step(a), step(b)); got != want {
					t.Errorf("%s of the sum of states %d and %d: %x, want %x", name, i, j, got, want)
				}
			}
		}
	}
}

// P2.4: Rho and Pi keep how many bits are 1.
func TestCounts(t *testing.T) {
	for name, step := range map[string]func([25]uint64) [25]uint64{"Rho": Rho, "Pi": Pi} {
		for i, a := range states() {
			if got, want := ones(step(a)), ones(a); got != want {
				t.Errorf("%s of state %d has %d bits 1, want %d", name, i, got, want)
			}
		}
	}
}

// P2.4: F of states that differ differs, even if they differ in one bit alone; of the same ones it is the same.
func TestFApart(t *testing.T) {
	for _, base := range [][25]uint64{{}, state(7)} {
		seen := map[[25]uint64]bool{F(base): true}
		for y := range 5 {
			for x := range 5 {
				for z := range 64 {
					a := add(base, single(x, y, z))
					got := F(a)
					if seen[got] {
						t.Fatalf("F of a state that differs at %d, %d, %d is that of another one", x, y, z)
					}
					seen[got] = true
					if F(a) != got {
						t.Fatalf("F of one state at %d, %d, %d isn't the same twice", x, y, z)
					}
				}
			}
		}
	}
}

// undoChi finds what Chi was of, row by row: a row's five bits have one state each from which they come.
func undoChi(a [25]uint64) [25]uint64 {
	var back [32]uint64
	for row := range uint64(32) {
		var one [25]uint64
		for x := range 5 {
			one[x] = row >> x & 1
		}
		one = Chi(one)
		to := one[0] | one[1]<<1 | one[2]<<2 | one[3]<<3 | one[4]<<4
		back[to] = row
	}
	return byBits(func(x, y, z int) uint64 {
		row := uint64(0)
		for i := range 5 {
			row |= bit(a, i, y, z) << i
		}
		return back[row] >> x & 1
	})
}

// undoTheta is Theta's turning back: Theta done often enough comes round, so that all but one time of it undo one.
func undoTheta(a [25]uint64) [25]uint64 {
	const order = 3 * 64
	for range order - 1 {
		a = Theta(a)
	}
	return a
}

func undoRho(a [25]uint64) [25]uint64 {
	for range 63 {
		a = Rho(a)
	}
	return a
}

func undoPi(a [25]uint64) [25]uint64 {
	for range 23 {
		a = Pi(a)
	}
	return a
}

// P2.4: F can be taken back, so that no two states have the same.
func TestFTakenBack(t *testing.T) {
	for i, want := range states() {
		got := F(want)
		for round := 23; round >= 0; round-- {
			got = undoTheta(undoRho(undoPi(undoChi(Iota(got, round)))))
		}
		if got != want {
			t.Errorf("F of state %d taken back: %x, want %x", i, got, want)
		}
	}
}
