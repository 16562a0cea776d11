package sym

import (
	"bytes"
	"crypto/hmac"
	"crypto/sha3"
	"encoding/hex"
	"hash"
	"math/rand"
	"slices"
	"strconv"
	"strings"
	"testing"

	"redan/api"
)

// plain is a state by the chapter's words, over the library's sums.
type plain struct {
	ck, h, key []byte
	n          uint64
}

// plainSum is the library's SHA3-256 of rows, one behind the other.
func plainSum(l ...[]byte) []byte {
	out := sha3.Sum256(bytes.Join(l, nil))
	return out[:]
}

// plainMac is the library's HMAC.
func plainMac(key []byte, l ...[]byte) []byte {
	h := hmac.New(func() hash.Hash { return sha3.New256() }, key)
	h.Write(bytes.Join(l, nil))
	return h.Sum(nil)
}

// plainKeys are HKDF's three keys; Two are the first of them.
func plainKeys(ck, in []byte) (a, b, c []byte) {
	t := plainMac(ck, in)
	a = plainMac(t, []byte{1})
	b = plainMac(t, a, []byte{2})
	return a, b, plainMac(t, b, []byte{3})
}

// plainNew says P16.2's words of New.
func plainNew(name string) *plain {
	h := []byte(name)
	if len(h) > 32 {
		h = plainSum(h)
	}
	for len(h) < 32 {
		h = append(h, 0)
	}
	return &plain{ck: h, h: h}
}

func (p *plain) mixHash(b []byte) { p.h = plainSum(p.h, b) }

func (p *plain) mixKey(in []byte) {
	p.ck, p.key, _ = plainKeys(p.ck, in)
	p.n = 0
}

func (p *plain) mixBoth(in []byte) {
	a, h, k := plainKeys(p.ck, in)
	p.ck = a
	p.mixHash(h)
	p.key, p.n = k, 0
}

// seal says P16.3's words, of no key or one of 32 bytes, and a number that may be.
func (p *plain) seal(t testing.TB, text []byte) []byte {
	t.Helper()
	out := bytes.Clone(text)
	if len(p.key) > 0 {
		out = plainSealed(t, p.key, p.n, p.h, text)
		p.n++
	}
	p.mixHash(out)
	return out
}

// stateIs fails unless a state is the plain one.
func stateIs(t testing.TB, s *State, p *plain, name string, of ...any) {
	t.Helper()
	if !bytes.Equal(s.Ck, p.ck) {
		t.Fatalf("%s %v: Ck %x, want %x", name, of, s.Ck, p.ck)
	}
	if !bytes.Equal(s.H, p.h) {
		t.Fatalf("%s %v: H %x, want %x", name, of, s.H, p.h)
	}
	cipherIs(t, &s.C, p.key, p.n, name, of...)
}

// plainOf is the plain one with a state's rows, in new memory.
func plainOf(s *State) *plain {
	return &plain{bytes.Clone(s.Ck), bytes.Clone(s.H), bytes.Clone(s.C.Key), s.C.N}
}

// some is a state of rows without order, with that number.
func some(n uint64) *State {
	return &State{Ck: mess("ck", 32), H: mess("h", 32), C: Cipher{mess("k", 32), n}}
}

// states are new ones, with and without something mixed in, and ones whose rows have other sizes.
func states() map[string]func() *State {
	return map[string]func() *State{
		"a new one":        func() *State { return New("a name") },
		"one of no bytes":  func() *State { return New("") },
		"one without rows": func() *State { return &State{} },
		"some":             func() *State { return some(9) },
		"one at the end":   func() *State { return some(last) },
		"a short one":      func() *State { return &State{Ck: []byte{1}, H: []byte{2}, C: Cipher{[]byte{3}, 4}} },
		"a long one": func() *State {
			return &State{Ck: mess("ck", 200), H: mess("h", 300), C: Cipher{mess("k", 33), 4}}
		},
		"one with an empty key": func() *State { return &State{Ck: mess("ck", 32), H: mess("h", 32), C: Cipher{[]byte{}, 6}} },
	}
}

// P16.2: the states of some names, as they stand.
func TestNewAsItStands(t *testing.T) {
	for name, want := range map[string]string{
		"":                                  strings.Repeat("00", 32),
		"redan":                             "726564616e" + strings.Repeat("00", 27),
		strings.Repeat("a", 31):             strings.Repeat("61", 31) + "00",
		strings.Repeat("a", 32):             strings.Repeat("61", 32),
		"Noise_XXpsk3_25519_ChaChaPoly_SHA": "", // 33 bytes: its sum
	} {
		if len(name) == 33 {
			want = hex.EncodeToString(plainSum([]byte(name)))
		}
		s := New(name)
		if hex.EncodeToString(s.H) != want || hex.EncodeToString(s.Ck) != want {
			t.Errorf("New of %q: H %x, Ck %x, want %s", name, s.H, s.Ck, want)
		}
		if len(s.C.Key) != 0 || s.C.N != 0 {
			t.Errorf("New of %q has a key %x, a number %d", name, s.C.Key, s.C.N)
		}
	}
}

// P16.2: names of each size up to more than a block of the sum, of any bytes.
func TestNew(t *testing.T) {
	for size := range 300 {
		for _, name := range []string{string(mess("name", size)), strings.Repeat("\x00", size), strings.Repeat("\xff", size), strings.Repeat("n", size)} {
			stateIs(t, New(name), plainNew(name), "New", size)
		}
	}
}

// P16.2: names whose ends are noughts are told apart from 33 bytes on; shorter ones are not, as is said.
func TestNoughtsBehindName(t *testing.T) {
	want := New("name").H
	for n := range 40 {
		got := New("name" + strings.Repeat("\x00", n)).H
		if bytes.Equal(got, want) != (n+4 <= 32) {
			t.Errorf("a name with %d noughts behind it: %x", n, got)
		}
	}
}

// P16.2: each mixing, by the promise's words, of states of all kinds and rows of many sizes.
func TestMixing(t *testing.T) {
	for kind, fresh := range states() {
		for _, size := range []int{0, 1, 31, 32, 33, 64, 103, 104, 105, 135, 136, 137, 1216, 3000} {
			in := mess("in", size)
			s, p := fresh(), plainOf(fresh())
			s.MixHash(in)
			p.mixHash(in)
			stateIs(t, s, p, "MixHash", kind, size)
			s, p = fresh(), plainOf(fresh())
			s.MixKey(in)
			p.mixKey(in)
			stateIs(t, s, p, "MixKey", kind, size)
			s, p = fresh(), plainOf(fresh())
			s.MixBoth(in)
			p.mixBoth(in)
			stateIs(t, s, p, "MixBoth", kind, size)
		}
	}
}

// mixings are the three calls.
func mixings() map[string]func(s *State, b []byte) {
	return map[string]func(s *State, b []byte){
		"MixKey":  func(s *State, b []byte) { s.MixKey(b) },
		"MixHash": func(s *State, b []byte) { s.MixHash(b) },
		"MixBoth": func(s *State, b []byte) { s.MixBoth(b) },
	}
}

// P16.2: nil and no bytes are one, and are mixed all the same.
func TestMixingNothing(t *testing.T) {
	for name, mix := range mixings() {
		a, b := some(5), some(5)
		mix(a, nil)
		mix(b, []byte{})
		stateIs(t, a, plainOf(b), name)
		if bytes.Equal(a.H, some(5).H) && bytes.Equal(a.Ck, some(5).Ck) {
			t.Errorf("%s of nothing changes nothing", name)
		}
	}
}

// P16.3: Seal and Open, by the promise's words, with and without a key; the sealed bytes are mixed in.
func TestStateSealAndOpen(t *testing.T) {
	for _, keyed := range []bool{false, true} {
		for _, n := range []uint64{0, 1, 255, 1 << 40, last - 1} {
			for _, size := range sizes() {
				fresh := func() *State {
					s := some(n)
					if !keyed {
						s.C.Key = nil
					}
					return s
				}
				text := mess("text", size)
				sealer, opener, p := fresh(), fresh(), plainOf(fresh())
				want := p.seal(t, text)
				sealed, e := sealer.Seal(text)
				answers(t, sealed, e, want, "Seal", keyed, n, size)
				stateIs(t, sealer, p, "Seal", keyed, n, size)
				got, e := opener.Open(sealed)
				answers(t, got, e, text, "Open", keyed, n, size)
				stateIs(t, opener, p, "Open", keyed, n, size)
			}
		}
	}
}

// P16.3: without a key the text is mixed in as it is, and no number is used up, the last one neither.
func TestStateWithoutKey(t *testing.T) {
	for _, n := range []uint64{0, last} {
		for name, call := range stateCalls() {
			s := New("a name")
			s.C.N = n
			got, e := call(s, []byte("text"))
			answers(t, got, e, []byte("text"), name)
			want := &plain{ck: plainNew("a name").ck, h: plainSum(plainNew("a name").h, []byte("text")), n: n}
			stateIs(t, s, want, name)
		}
	}
}

// stateCalls are a state's two calls with an error.
func stateCalls() map[string]func(s *State, b []byte) ([]byte, api.Errno) {
	return map[string]func(s *State, b []byte) ([]byte, api.Errno){
		"Seal": func(s *State, b []byte) ([]byte, api.Errno) { return s.Seal(b) },
		"Open": func(s *State, b []byte) ([]byte, api.Errno) { return s.Open(b) },
	}
}

// P16.3: the cipher's errors are told, in its order, and nothing changes.
func TestStateRefuses(t *testing.T) {
	for name, call := range stateCalls() {
		for _, size := range []int{0, 15, 16, 40} {
			for _, keySize := range []int{1, 31, 33, 64} {
				for _, n := range []uint64{0, last} {
					s := some(n)
					s.C.Key = mess("k", keySize)
					before := plainOf(s)
					got, e := call(s, mess("b", size))
					refuses(t, got, e, api.ErrArg, name, keySize, n, size)
					stateIs(t, s, before, name, keySize, n, size)
				}
			}
			s := some(last)
			got, e := call(s, mess("b", size))
			refuses(t, got, e, api.ErrNonce, name, size)
			stateIs(t, s, plainOf(some(last)), name, size)
		}
	}
}

// P16.3: what isn't opened changes nothing, and what is right is opened behind it.
func TestStateOpenRefuses(t *testing.T) {
	for _, size := range []int{0, 1, 30} {
		sealer, opener := some(3), some(3)
		sealed, e := sealer.Seal(mess("text", size))
		if e != api.OK {
			t.Fatalf("Seal: error %d", int(e))
		}
		check := func(b []byte, want api.Errno, of ...any) {
			t.Helper()
			got, e := opener.Open(b)
			refuses(t, got, e, want, "Open", of...)
			stateIs(t, opener, plainOf(some(3)), "Open", of...)
		}
		for i := range sealed {
			check(turned(sealed, i, 16), api.ErrAuth, "turned", i)
		}
		for i := range len(sealed) {
			want := api.ErrAuth
			if i < 16 {
				want = api.ErrShort
			}
			check(sealed[:i], want, "too few", i)
		}
		check(append(bytes.Clone(sealed), 1), api.ErrAuth, "one more")
		got, e := opener.Open(sealed)
		answers(t, got, e, mess("text", size), "Open")
		stateIs(t, opener, plainOf(sealer), "Open")
		other := some(3)
		other.H[31] ^= 1
		got, e = other.Open(sealed)
		refuses(t, got, e, api.ErrAuth, "Open with another sum")
	}
}

// P16.3: Split, by the promise's words, of states of all kinds, twice; the state stays as it is.
func TestSplit(t *testing.T) {
	for kind, fresh := range states() {
		s, before := fresh(), plainOf(fresh())
		a, b, _ := plainKeys(before.ck, nil)
		for range 2 {
			first, second := s.Split()
			cipherIs(t, &first, a, 0, "Split, the first", kind)
			cipherIs(t, &second, b, 0, "Split, the second", kind)
			stateIs(t, s, before, "Split", kind)
		}
	}
}

// P16.3: the two ciphers differ; each one opens what it sealed, and not what the other one did.
func TestSplitCiphers(t *testing.T) {
	a, b := New("a name"), New("a name")
	for _, s := range []*State{a, b} {
		s.MixKey([]byte("secret"))
	}
	if bytes.Equal(a.C.Key, b.Ck) {
		t.Fatal("a key is the chaining key")
	}
	first, second := a.Split()
	third, fourth := b.Split()
	sealed, _ := first.Seal(nil, []byte("text"))
	got, e := fourth.Open(nil, sealed)
	refuses(t, got, e, api.ErrAuth, "Open with the second")
	got, e = third.Open(nil, sealed)
	answers(t, got, e, []byte("text"), "Open with the first")
	sealed, _ = second.Seal(nil, []byte("back"))
	got, e = fourth.Open(nil, sealed)
	answers(t, got, e, []byte("back"), "Open with the second")
}

// P16.4: what Split answers shares no memory with the state, nor with each other, nor with another answer.
func TestSplitIsNew(t *testing.T) {
	s := some(2)
	first, second := s.Split()
	third, fourth := s.Split()
	want := bytes.Clone(second.Key)
	spoil(first.Key)
	if !bytes.Equal(second.Key, want) || !bytes.Equal(fourth.Key, want) || bytes.Equal(third.Key, first.Key) {
		t.Error("ciphers share memory")
	}
	spoil(second.Key)
	stateIs(t, s, plainOf(some(2)), "Split, its answers changed")
	spoil(s.Ck)
	if !bytes.Equal(fourth.Key, want) {
		t.Error("a cipher lies in the state")
	}
}

// P16.4: of nil ErrArg and nothing; mixing does nothing.
func TestNilState(t *testing.T) {
	var s *State
	for _, b := range [][]byte{nil, mess("b", 15), mess("b", 40)} {
		for name, call := range stateCalls() {
			got, e := call(s, b)
			refuses(t, got, e, api.ErrArg, name, len(b))
		}
		for _, mix := range mixings() {
			mix(s, b)
		}
	}
	first, second := s.Split()
	cipherIs(t, &first, nil, 0, "Split of nil")
	cipherIs(t, &second, nil, 0, "Split of nil")
}

// P16.2, P16.4: the rows of a new state are new, and share nothing with each other, nor with those of another one.
func TestNewIsNew(t *testing.T) {
	for _, size := range []int{0, 5, 31, 32, 33, 200} {
		name := string(mess("name", size))
		a, b := New(name), New(name)
		spoil(a.H)
		if !bytes.Equal(a.Ck, plainNew(name).ck) {
			t.Errorf("New of %d bytes: H and Ck share memory", size)
		}
		spoil(a.Ck)
		stateIs(t, b, plainNew(name), "New, another one's rows changed", size)
		stateIs(t, New(name), plainNew(name), "New once more", size)
	}
}

// P16.4: what is mixed in, sealed or opened is neither changed nor kept, nor does what lies behind it count.
func TestStateMemory(t *testing.T) {
	for _, size := range []int{0, 1, 32, 200} {
		for name, mix := range mixings() {
			room := mess("room", size+50)
			s, want := some(1), some(1)
			mix(s, room[:size])
			mix(want, mess("room", size+50)[:size:size])
			if !bytes.Equal(room, mess("room", size+50)) {
				t.Errorf("%s changed what it was handed, %d bytes", name, size)
			}
			spoil(room)
			stateIs(t, s, plainOf(want), name, size)
		}
		for name, call := range stateCalls() {
			for _, keyed := range []bool{false, true} {
				fresh := func() *State {
					if keyed {
						return some(1)
					}
					return New("a name")
				}
				b := mess("text", size)
				if name == "Open" {
					b, _ = fresh().Seal(b)
				}
				room := append(bytes.Clone(b), mess("behind", 50)...)
				before := bytes.Clone(room)
				s, other := fresh(), fresh()
				got, e := call(s, room[:len(b)])
				want, _ := call(other, bytes.Clone(b))
				answers(t, got, e, want, name, keyed, size)
				if !bytes.Equal(room, before) {
					t.Errorf("%s changed what it was handed, %d bytes", name, size)
				}
				spoil(room)
				answers(t, got, e, want, name, keyed, size, "what was handed in changed")
				spoil(got)
				stateIs(t, s, plainOf(other), name, keyed, size, "its answer changed")
			}
		}
	}
}

// P16.4: a state's own rows may be handed in.
func TestOwnRows(t *testing.T) {
	for name, mix := range mixings() {
		for i := range 3 {
			s, want := some(1), some(1)
			mix(s, [][]byte{s.Ck, s.H, s.C.Key}[i])
			mix(want, [][]byte{mess("ck", 32), mess("h", 32), mess("k", 32)}[i])
			stateIs(t, s, plainOf(want), name, i)
		}
	}
	s, p := some(1), plainOf(some(1))
	want := p.seal(t, mess("h", 32))
	got, e := s.Seal(s.H)
	answers(t, got, e, want, "Seal of the sum")
	stateIs(t, s, p, "Seal of the sum")
}

// doings are all that may be done to the state of some(1).
func doings(t *testing.T) map[string]func(s *State) {
	return map[string]func(s *State){
		"MixKey":  func(s *State) { s.MixKey([]byte("in")) },
		"MixHash": func(s *State) { s.MixHash([]byte("in")) },
		"MixBoth": func(s *State) { s.MixBoth([]byte("in")) },
		"Seal":    func(s *State) { s.Seal([]byte("text")) },
		"Open":    func(s *State) { s.Open(plainSealed(t, mess("k", 32), 1, mess("h", 32), nil)) },
		"Rekey":   func(s *State) { s.C.Rekey() },
		"Split":   func(s *State) { s.Split() },
	}
}

// P16.4: a state that was copied stays as it is, whatever is done with the other one: no row is written into.
func TestCopiedStates(t *testing.T) {
	for name, do := range doings(t) {
		s := some(1)
		kept := *s
		do(s)
		stateIs(t, &kept, plainOf(some(1)), name)
	}
}

// P16.4: nor is anything written behind a state's rows.
func TestBehindRows(t *testing.T) {
	for name, do := range doings(t) {
		ck, h, k := append(mess("ck", 32), mess("behind", 100)...), append(mess("h", 32), mess("behind", 100)...), append(mess("k", 32), mess("behind", 100)...)
		s, want := &State{ck[:32], h[:32], Cipher{k[:32], 1}}, some(1)
		do(s)
		do(want)
		stateIs(t, s, plainOf(want), name)
		for _, room := range [][]byte{ck, h, k} {
			if !bytes.Equal(room[32:], mess("behind", 100)) {
				t.Errorf("%s wrote behind a row", name)
			}
		}
	}
}

// together are two states and the plain one, to which the same is done.
type together struct {
	a, b *State
	p    *plain
}

// mix mixes the same into all three.
func (x *together) mix(which int, in []byte) {
	switch which {
	case 0:
		x.a.MixHash(in)
		x.b.MixHash(in)
		x.p.mixHash(in)
	case 1:
		x.a.MixKey(in)
		x.b.MixKey(in)
		x.p.mixKey(in)
	case 2:
		x.a.MixBoth(in)
		x.b.MixBoth(in)
		x.p.mixBoth(in)
	}
}

// pass seals with one state and opens with the other one, behind something that isn't opened.
func (x *together) pass(t *testing.T, text []byte) {
	t.Helper()
	sealed, e := x.a.Seal(text)
	answers(t, sealed, e, x.p.seal(t, text), "Seal")
	if x.b.C.Key != nil {
		got, e := x.b.Open(turned(sealed, len(sealed)-1, 1))
		refuses(t, got, e, api.ErrAuth, "Open of what was turned")
		got, e = x.b.Open(sealed[:15])
		refuses(t, got, e, api.ErrShort, "Open of 15 bytes")
	}
	got, e := x.b.Open(sealed)
	answers(t, got, e, text, "Open")
	x.a, x.b = x.b, x.a
}

// rekey makes another key of all three.
func (x *together) rekey(t *testing.T) {
	t.Helper()
	x.a.C.Rekey()
	x.b.C.Rekey()
	if len(x.p.key) > 0 {
		x.p.key = plainRekeyed(t, x.p.key)
	}
}

// P16.5: two states of one name in which the same is mixed are the same, and open what the other one seals, to and fro.
func TestTwoStates(t *testing.T) {
	for seed := range 60 {
		chance := rand.New(rand.NewSource(int64(seed)))
		name := string(mess(strconv.Itoa(seed), chance.Intn(70)))
		x := &together{New(name), New(name), plainNew(name)}
		for step := range 40 {
			b := mess(strconv.Itoa(step), chance.Intn(150))
			switch which := chance.Intn(8); which {
			case 0, 1, 2:
				x.mix(which, b)
			case 3:
				x.rekey(t)
			default:
				x.pass(t, b)
			}
			stateIs(t, x.a, x.p, "the one", seed, step)
			stateIs(t, x.b, x.p, "the other one", seed, step)
		}
		first, second := x.a.Split()
		third, fourth := x.b.Split()
		cipherIs(t, &first, third.Key, 0, "Split of both, the first", seed)
		cipherIs(t, &second, fourth.Key, 0, "Split of both, the second", seed)
	}
}

// P16.5: states of other names, or in which something else is mixed, or in another order, don't open.
func TestOtherStates(t *testing.T) {
	fresh := func(name string, l ...string) *State {
		s := New(name)
		for i := range l {
			s.MixHash([]byte(l[i]))
			s.MixBoth([]byte(l[i]))
			s.MixKey([]byte(l[i]))
		}
		return s
	}
	sealed, e := fresh("a name", "one", "two").Seal([]byte("text"))
	if e != api.OK {
		t.Fatalf("Seal: error %d", int(e))
	}
	others := []*State{
		fresh("another name", "one", "two"), fresh("a name", "two", "one"), fresh("a name", "one"), fresh("a name", "one", "two", ""), fresh("a name", "onetwo"), fresh("a name", "", "one", "two"),
	}
	for i, s := range others {
		before := plainOf(s)
		got, e := s.Open(sealed)
		refuses(t, got, e, api.ErrAuth, "Open of another state", i)
		stateIs(t, s, before, "Open of another state", i)
	}
	got, e := fresh("a name", "one", "two").Open(sealed)
	answers(t, got, e, []byte("text"), "Open")
}

// P16.5: each mixing makes another state, and no two of them the same.
func TestMixingsDiffer(t *testing.T) {
	var rows [][]byte
	for _, mix := range mixings() {
		s := some(1)
		mix(s, []byte("in"))
		for _, b := range [][]byte{s.Ck, s.H, s.C.Key} {
			if len(b) != 32 {
				t.Errorf("a row of %d bytes", len(b))
			}
			rows = append(rows, b)
		}
	}
	// MixHash leaves two rows, MixKey one and MixBoth none of the old ones; MixKey's chaining key is MixBoth's.
	slices.SortFunc(rows, bytes.Compare)
	if got := len(slices.CompactFunc(rows, bytes.Equal)); got != 8 {
		t.Errorf("%d rows, want 8", got)
	}
}
