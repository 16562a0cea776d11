package ntt

import (
	"math"
	"testing"

	"redan/api"
)

// q is the number of the chapter, not the program's own.
const q = 3329

// rest says the chapter's word: from 0 to q - 1, also of a number below 0.
func rest(x int) int { return (x%q + q) % q }

// same fails unless a polynomial is the right one.
func same(t *testing.T, got, want api.Poly, name string, of ...any) {
	for i := range got {
		if got[i] != want[i] {
			t.Helper()
			t.Fatalf("%s %v: %d at %d, want %d", name, of, got[i], i, want[i])
		}
	}
}

// alone is the polynomial with one coefficient, at one place.
func alone(place, c int) api.Poly {
	var out api.Poly
	out[place] = c
	return out
}

// full is the polynomial with one number at all places.
func full(c int) api.Poly {
	var out api.Poly
	for i := range out {
		out[i] = c
	}
	return out
}

// wild is a polynomial without order, of all an int's bits.
func wild(seed int) api.Poly {
	var out api.Poly
	x := uint64(seed)*2654435761 + 12345
	for i := range out {
		x = x*6364136223846793005 + 1442695040888963407
		out[i] = int(x ^ x>>29)
	}
	return out
}

// tame is a polynomial without order, of rests.
func tame(seed int) api.Poly {
	out := wild(seed)
	for i := range out {
		out[i] = rest(out[i])
	}
	return out
}

// edges are the numbers that are hardest to take the rest of: about 0, q, multiples of it, and an int's ends.
func edges() []int {
	return []int{
		0, 1, -1, 2, -2, 1664, 1665, -1664, -1665, q - 1, q, q + 1, -q + 1, -q, -q - 1, 2*q - 1, 2 * q, -2 * q, 7*q + 5, -7*q - 5,
		q * q, q*q - 1, -q * q, -q*q - 1, math.MaxInt32, math.MinInt32, math.MaxInt / q * q, math.MinInt / q * q,
		math.MaxInt, math.MaxInt - 1, math.MaxInt / 2, math.MinInt, math.MinInt + 1, math.MinInt / 2,
	}
}

// mixed is a polynomial of edges, each place with another one.
func mixed(turn int) api.Poly {
	e := edges()
	var out api.Poly
	for i := range out {
		out[i] = e[(i*(2*turn+1)+turn)%len(e)]
	}
	return out
}

// named is a polynomial, with what to call it.
type named struct {
	name string
	p    api.Poly
}

// all are polynomials of all these kinds.
func all() []named {
	out := []named{
		{"0", api.Poly{}}, {"1", alone(0, 1)}, {"X", alone(1, 1)}, {"X^255", alone(255, 1)}, {"X^128", alone(128, 1)},
		{"-1", alone(0, -1)}, {"1 + X", api.Poly{1, 1}}, {"counted", counted()},
	}
	for _, c := range edges() {
		out = append(out, named{"all of an edge", full(c)})
	}
	for k := range 6 {
		out = append(out, named{"mixed", mixed(k)}, named{"wild", wild(k)}, named{"tame", tame(k)})
	}
	return out
}

// counted is the polynomial with each place's number at it.
func counted() api.Poly {
	var out api.Poly
	for i := range out {
		out[i] = i
	}
	return out
}

// plainClean says the words of P11.1.
func plainClean(p api.Poly) api.Poly {
	for i := range p {
		p[i] = rest(p[i])
	}
	return p
}

// plainPlus says the words of P11.1: a + sign times b.
func plainPlus(a api.Poly, sign int, b api.Poly) api.Poly {
	for i := range a {
		a[i] = rest(rest(a[i]) + sign*rest(b[i]))
	}
	return a
}

// plainZ says the chapter's word z(i), counted along.
func plainZ(i int) int {
	k := 0
	for j := range 7 {
		if i/(1<<j)%2 == 1 {
			k += 1 << (6 - j)
		}
	}
	out := 1
	for range 2*k + 1 {
		out = out * 17 % q
	}
	return out
}

// plainZs are all z(i).
func plainZs() [128]int {
	var out [128]int
	for i := range out {
		out[i] = plainZ(i)
	}
	return out
}

// plainForward says the words of P11.2: the sums written out.
func plainForward(p api.Poly) api.Poly {
	p = plainClean(p)
	var out api.Poly
	for i, z := range plainZs() {
		power := 1
		for j := range 128 {
			out[2*i] = (out[2*i] + p[2*j]*power) % q
			out[2*i+1] = (out[2*i+1] + p[2*j+1]*power) % q
			power = power * z % q
		}
	}
	return out
}

// plainTimes says the words of P11.3.
func plainTimes(a, b api.Poly) api.Poly {
	a, b = plainClean(a), plainClean(b)
	var out api.Poly
	for i, z := range plainZs() {
		a0, a1, b0, b1 := a[2*i], a[2*i+1], b[2*i], b[2*i+1]
		out[2*i] = (a0*b0 + a1*b1%q*z) % q
		out[2*i+1] = (a0*b1 + a1*b0) % q
	}
	return out
}

// plainProduct says the words of P11.3: all terms, those beyond the end with the other sign.
func plainProduct(a, b api.Poly) api.Poly {
	a, b = plainClean(a), plainClean(b)
	var out api.Poly
	for i := range a {
		for j := range b {
			if k := i + j; k < 256 {
				out[k] += a[i] * b[j] % q
			} else {
				out[k-256] -= a[i] * b[j] % q
			}
		}
	}
	return plainClean(out)
}

// P11.2, P11.3: the chapter's examples.
func TestExamples(t *testing.T) {
	var want api.Poly
	for i := range 128 {
		want[2*i] = 1
	}
	same(t, Forward(api.Poly{1}), want, "Forward of 1")
	same(t, Product(alone(255, 1), alone(1, 1)), api.Poly{3328}, "Product of X^255 and X")
}

// P11.1: polynomials of all kinds.
func TestClean(t *testing.T) {
	for _, c := range all() {
		same(t, Clean(c.p), plainClean(c.p), "Clean", c.name)
	}
}

// P11.1: each edge at each place, alone.
func TestCleanAtEachPlace(t *testing.T) {
	for i := range 256 {
		for _, c := range edges() {
			same(t, Clean(alone(i, c)), alone(i, rest(c)), "Clean", i, c)
		}
	}
}

// P11.1: each pair of polynomials of all kinds, sums too that run over an int.
func TestPlusAndMinus(t *testing.T) {
	for _, a := range all() {
		for _, b := range all() {
			same(t, Plus(a.p, b.p), plainPlus(a.p, 1, b.p), "Plus", a.name, b.name)
			same(t, Minus(a.p, b.p), plainPlus(a.p, -1, b.p), "Minus", a.name, b.name)
		}
	}
}

// P11.1: sum and difference are of the one place alone.
func TestPlusAndMinusAtEachPlace(t *testing.T) {
	for i := range 256 {
		same(t, Plus(alone(i, 3000), alone(i, 400)), alone(i, 71), "Plus", i)
		same(t, Minus(alone(i, 400), alone(i, 3000)), alone(i, 729), "Minus", i)
		same(t, Minus(api.Poly{}, alone(i, 1)), alone(i, 3328), "Minus", i)
		j := 255 - i
		want := alone(i, 5)
		want[j] = 6
		same(t, Plus(alone(i, 5), alone(j, 6)), want, "Plus", i, j)
		want[j] = q - 6
		same(t, Minus(alone(i, 5), alone(j, 6)), want, "Minus", i, j)
	}
}

// P11.1: what runs over an int, said by hand: 2^63 has the rest 1494, by 64 bits.
func TestOverAnInt(t *testing.T) {
	if math.MaxInt != math.MaxInt64 {
		t.Skip("an int of fewer bits")
	}
	top, bottom := full(math.MaxInt), full(math.MinInt)
	same(t, Clean(top), full(1493), "Clean of the greatest")
	same(t, Clean(bottom), full(q-1494), "Clean of the smallest")
	same(t, Plus(top, top), full(2*1493), "Plus of the greatest")
	same(t, Plus(bottom, bottom), full(q-2*1494), "Plus of the smallest")
	same(t, Plus(top, bottom), full(q-1), "Plus of both ends")
	same(t, Minus(bottom, top), full(q-1493-1494), "Minus of both ends")
	same(t, Minus(top, bottom), full(1493+1494), "Minus of both ends, turned round")
}

// P11.2: polynomials of all kinds, against the sums written out.
func TestForwardByItsWords(t *testing.T) {
	for _, c := range all() {
		same(t, Forward(c.p), plainForward(c.p), "Forward", c.name)
	}
	for k := range 100 {
		same(t, Forward(wild(1000+k)), plainForward(wild(1000+k)), "Forward of wild", k)
	}
}

// P11.2: one coefficient alone at each place: of X^2j it is z(i)^j at each 2 i, of X^(2j+1) at each 2 i + 1.
func TestForwardAtEachPlace(t *testing.T) {
	zs := plainZs()
	for place := range 256 {
		for _, c := range []int{1, -1, 17, q, q + 2, math.MaxInt, math.MinInt} {
			var want api.Poly
			for i, z := range zs {
				power := 1
				for range place / 2 {
					power = power * z % q
				}
				want[2*i+place%2] = power * rest(c) % q
			}
			same(t, Forward(alone(place, c)), want, "Forward", place, c)
		}
	}
}

// P11.2: Forward of X^2 is all z(i).
func TestForwardIsAllZ(t *testing.T) {
	got := Forward(alone(2, 1))
	for i := range 128 {
		if got[2*i] != plainZ(i) || got[2*i+1] != 0 {
			t.Fatalf("Forward of X^2 at %d: %d, %d, want %d, 0", 2*i, got[2*i], got[2*i+1], plainZ(i))
		}
	}
}

// gammas are z(0), z(2), z(4) and so on, out of the standard (FIPS 203, appendix A); between them stand the same below 0.
func gammas() []int {
	return []int{
		17, 2761, 583, 2649, 1637, 723, 2288, 1100, 1409, 2662, 3281, 233, 756, 2156, 3015, 3050,
		1703, 1651, 2789, 1789, 1847, 952, 1461, 2687, 939, 2308, 2437, 2388, 733, 2337, 268, 641,
		1584, 2298, 2037, 3220, 375, 2549, 2090, 1645, 1063, 319, 2773, 757, 2099, 561, 2466, 2594,
		2804, 1092, 403, 1026, 1143, 2150, 2775, 886, 1722, 1212, 1874, 1029, 2110, 2935, 885, 2154,
	}
}

// P11.2, P11.3: each z(i) as in the standard, in Forward and in Times.
func TestZOfTheStandard(t *testing.T) {
	if len(gammas()) != 64 {
		t.Fatalf("%d gammas", len(gammas()))
	}
	forward := Forward(alone(2, 1))
	odd := Forward(alone(1, 1))
	times := Times(odd, odd)
	for i, z := range gammas() {
		for k, want := range []int{z, q - z} {
			if at := 2 * (2*i + k); forward[at] != want || times[at] != want {
				t.Fatalf("z(%d): %d by Forward, %d by Times, want %d", 2*i+k, forward[at], times[at], want)
			}
		}
	}
}

// P11.2: Forward of what Inverse answers, by the sums written out, is what was handed in, cleaned.
func TestInverseByItsWords(t *testing.T) {
	for _, c := range all() {
		same(t, plainForward(Inverse(c.p)), plainClean(c.p), "the sums of Inverse", c.name)
	}
	for k := range 100 {
		same(t, plainForward(Inverse(wild(2000+k))), plainClean(wild(2000+k)), "the sums of Inverse of wild", k)
	}
}

// P11.2: one coefficient alone at each place.
func TestInverseAtEachPlace(t *testing.T) {
	for place := range 256 {
		for _, c := range []int{1, -1, q, q + 2, math.MinInt} {
			same(t, plainForward(Inverse(alone(place, c))), alone(place, rest(c)), "the sums of Inverse", place, c)
		}
		same(t, Inverse(plainForward(alone(place, 1))), alone(place, 1), "Inverse of the sums", place)
	}
}

// P11.2: said by hand: with 1 at each 2 i it is 1, with 1 at each 2 i + 1 it is X.
func TestInverseByHand(t *testing.T) {
	var even, odd api.Poly
	for i := range 128 {
		even[2*i], odd[2*i+1] = 1, 1
	}
	same(t, Inverse(even), alone(0, 1), "Inverse of 1 at even places")
	same(t, Inverse(odd), alone(1, 1), "Inverse of 1 at odd places")
	same(t, Inverse(full(q)), api.Poly{}, "Inverse of q at all places")
	same(t, Inverse(full(-1)), api.Poly{3328, 3328}, "Inverse of -1 at all places")
}

// P11.3: each pair of polynomials of all kinds.
func TestTimesByItsWords(t *testing.T) {
	for _, a := range all() {
		for _, b := range all() {
			same(t, Times(a.p, b.p), plainTimes(a.p, b.p), "Times", a.name, b.name)
		}
	}
}

// P11.3: for each i, the four products of one coefficient each; and none with those of another i.
func TestTimesAtEachPlace(t *testing.T) {
	for i := range 128 {
		even, odd := 2*i, 2*i+1
		same(t, Times(alone(even, 5), alone(even, 1000)), alone(even, 5000-q), "Times, both even", i)
		same(t, Times(alone(even, -1), alone(odd, 3)), alone(odd, q-3), "Times, even and odd", i)
		same(t, Times(alone(odd, 3), alone(even, -1)), alone(odd, q-3), "Times, odd and even", i)
		same(t, Times(alone(odd, 1), alone(odd, 1)), alone(even, plainZ(i)), "Times, both odd", i)
		same(t, Times(alone(odd, -1), alone(odd, 1)), alone(even, q-plainZ(i)), "Times, both odd, one below 0", i)
		for _, other := range []int{even ^ 2, odd ^ 2, even ^ 128, 255 - even} {
			same(t, Times(alone(even, 1), alone(other, 1)), plainTimes(alone(even, 1), alone(other, 1)), "Times", even, other)
			same(t, Times(alone(odd, 1), alone(other, 1)), plainTimes(alone(odd, 1), alone(other, 1)), "Times", odd, other)
		}
	}
}

// P11.3: polynomials of all kinds, against all terms written out.
func TestProductByItsWords(t *testing.T) {
	few := append(all()[:8], named{"smallest", full(math.MinInt)}, named{"greatest", full(math.MaxInt)}, named{"q", full(q)}, named{"-1", full(-1)},
		named{"mixed", mixed(1)}, named{"mixed", mixed(2)}, named{"wild", wild(7)}, named{"wild", wild(8)}, named{"tame", tame(9)})
	for _, a := range few {
		for _, b := range few {
			same(t, Product(a.p, b.p), plainProduct(a.p, b.p), "Product", a.name, b.name)
		}
	}
	for k := range 100 {
		same(t, Product(wild(k), wild(-k)), plainProduct(wild(k), wild(-k)), "Product of wild", k)
	}
}

// P11.3: X^i times X^j is X^(i+j), or beyond the end that less 256, with the other sign.
func TestProductGoesRound(t *testing.T) {
	for i := range 256 {
		for _, j := range []int{0, 1, 2, 3, 64, 127, 128, 129, 254, 255, i, 255 - i, (256 - i) % 256, (257 - i) % 256} {
			want := alone((i+j)%256, 6)
			if i+j >= 256 {
				want = alone(i+j-256, q-6)
			}
			same(t, Product(alone(i, 2), alone(j, 3)), want, "Product", i, j)
			same(t, Product(alone(i, -2), alone(j, q-3)), want, "Product of two below 0", i, j)
		}
	}
}

// P11.3: said by hand: times 0, 1, -1 and X.
func TestProductByHand(t *testing.T) {
	for _, c := range all() {
		p := plainClean(c.p)
		same(t, Product(c.p, api.Poly{}), api.Poly{}, "Product with 0", c.name)
		same(t, Product(c.p, alone(0, 1)), p, "Product with 1", c.name)
		same(t, Product(alone(0, -1), c.p), plainPlus(api.Poly{}, -1, p), "Product with -1", c.name)
		moved := api.Poly{rest(-p[255])}
		copy(moved[1:], p[:255])
		same(t, Product(c.p, alone(1, 1)), moved, "Product with X", c.name)
	}
	same(t, Product(api.Poly{1, 1}, api.Poly{1, q - 1}), api.Poly{1, 0, q - 1}, "Product of 1 + X and 1 - X")
}

// P11.4: Inverse of Forward is Clean, and so is Forward of Inverse.
func TestInverseOfForward(t *testing.T) {
	for _, c := range all() {
		same(t, Inverse(Forward(c.p)), Clean(c.p), "Inverse of Forward", c.name)
		same(t, Forward(Inverse(c.p)), Clean(c.p), "Forward of Inverse", c.name)
	}
	for i := range 256 {
		for _, c := range edges() {
			same(t, Inverse(Forward(alone(i, c))), Clean(alone(i, c)), "Inverse of Forward", i, c)
		}
	}
}

// P11.4: Forward of the Product is Times of the Forwards; of a sum, or difference, it is that of the Forwards.
func TestForwardOfTwo(t *testing.T) {
	for _, a := range all() {
		for _, b := range all() {
			fa, fb := Forward(a.p), Forward(b.p)
			same(t, Forward(Product(a.p, b.p)), Times(fa, fb), "Forward of Product", a.name, b.name)
			same(t, Forward(Plus(a.p, b.p)), Plus(fa, fb), "Forward of Plus", a.name, b.name)
			same(t, Forward(Minus(a.p, b.p)), Minus(fa, fb), "Forward of Minus", a.name, b.name)
		}
	}
}

// P11.4: Product's laws: in either order, and over a sum.
func TestProductLaws(t *testing.T) {
	for k := range 20 {
		a, b, c := wild(3*k), mixed(k), wild(3*k+1)
		same(t, Product(a, b), Product(b, a), "Product, turned round", k)
		same(t, Product(a, Product(b, c)), Product(Product(a, b), c), "Product of three", k)
		same(t, Product(a, Plus(b, c)), Plus(Product(a, b), Product(a, c)), "Product of a sum", k)
	}
}

// ones and twos are the calls of one polynomial, and of two.
var ones = map[string]func(p api.Poly) api.Poly{"Clean": Clean, "Forward": Forward, "Inverse": Inverse}
var twos = map[string]func(a, b api.Poly) api.Poly{"Plus": Plus, "Minus": Minus, "Times": Times, "Product": Product}

// Words: all answers are rests, and what stands for a polynomial's rests has the answers of these.
func TestAnswersAreRests(t *testing.T) {
	hold := func(p api.Poly, name string) {
		for i, c := range p {
			if c < 0 || c >= q {
				t.Fatalf("%s: %d at %d is no rest", name, c, i)
			}
		}
	}
	for _, a := range all() {
		for name, call := range ones {
			hold(call(a.p), name)
			same(t, call(plainClean(a.p)), call(a.p), name, "of rests", a.name)
		}
		for _, b := range []api.Poly{{}, full(-1), full(q), mixed(3), wild(3), full(math.MinInt), full(math.MaxInt)} {
			for name, call := range twos {
				hold(call(a.p, b), name)
				hold(call(b, a.p), name)
				same(t, call(plainClean(a.p), plainClean(b)), call(a.p, b), name, "of rests", a.name)
			}
		}
	}
}

// Rules 3 and 4: what is handed in is left as it was, what was answered too, and the same calls have the same answers.
func TestLeftAsItWas(t *testing.T) {
	for _, c := range all() {
		a, b := c.p, mixed(4)
		for name, call := range ones {
			first := call(a)
			kept := first
			same(t, call(a), kept, name, "again", c.name)
			call(b)
			same(t, first, kept, name, "is changed", c.name)
			same(t, a, c.p, name, "has changed its argument", c.name)
		}
		for name, call := range twos {
			first := call(a, b)
			kept := first
			same(t, call(a, b), kept, name, "again", c.name)
			call(b, a)
			same(t, first, kept, name, "is changed", c.name)
			same(t, a, c.p, name, "has changed its first argument", c.name)
			same(t, b, mixed(4), name, "has changed its second argument", c.name)
		}
	}
}
