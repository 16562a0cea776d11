package session

import (
	"bytes"
	"math"
	"math/big"
	"reflect"
	"slices"
	"testing"

	"redan/aead"
	"redan/api"
	"redan/sym"
)

const greatest = math.MaxUint64

// row is a row of n bytes, another one for each seed.
func row(n, seed int) []byte {
	out := make([]byte, n)
	x := uint32(seed)*2654435761 + 12345
	for i := range n {
		x = x*1664525 + 1013904223
		out[i] = byte(x >> 24)
	}
	return out
}

// long is a number as a long one.
func long(x uint64) *big.Int { return new(big.Int).SetUint64(x) }

// plainSince says the chapter's word.
func plainSince(moment, now uint64) *big.Int {
	d := new(big.Int).Sub(long(now), long(moment))
	if d.Sign() < 0 {
		return new(big.Int)
	}
	return d
}

// reached tells whether since a moment now is at least that long.
func reached(moment, now, age uint64) bool { return plainSince(moment, now).Cmp(long(age)) >= 0 }

// plainWait says P22.1's words, with long numbers.
func plainWait(r Rules, n int) uint64 {
	retry := r.Retry
	if retry == 0 {
		retry = 1
	}
	most := r.RetryMax
	if most < retry {
		most = retry
	}
	if n < 0 {
		n = 0
	}
	// 1 doubled 100 times is greater than any bound already.
	if n > 100 {
		n = 100
	}
	product := new(big.Int).Exp(big.NewInt(2), big.NewInt(int64(n)), nil)
	product.Mul(product, long(retry))
	if product.Cmp(long(most)) > 0 {
		return most
	}
	return product.Uint64()
}

// plainTimer is a timer by P22.2's words.
type plainTimer struct {
	rules Rules
	said  uint64
	again int
}

func (p *plainTimer) due(now uint64) bool {
	return reached(p.said, now, plainWait(p.rules, p.again))
}

func (p *plainTimer) sayAgain(now uint64) bool {
	if p.again >= p.rules.Tries {
		return false
	}
	p.said, p.again = now, p.again+1
	return true
}

// timers are a timer and the plain one to which it is held.
type timers struct {
	t *testing.T
	x *Timer
	p *plainTimer
}

// started are two timers of a message that was said at that moment.
func started(t *testing.T, r Rules, now uint64) *timers {
	t.Helper()
	x := Start(r, now)
	if x == nil {
		t.Fatal("Start: no timer")
	}
	return &timers{t, x, &plainTimer{rules: r, said: now}}
}

// due holds Due to the plain timer's, and looks that it changes nothing.
func (x *timers) due(now uint64) bool {
	x.t.Helper()
	was := *x.x
	got, want := x.x.Due(now), x.p.due(now)
	if got != want {
		x.t.Fatalf("%+v: Due at %d: %v, not %v", *x.p, now, got, want)
	}
	if *x.x != was {
		x.t.Fatalf("%+v: Due at %d changed the timer", *x.p, now)
	}
	return got
}

// again holds Again to the plain timer's, and looks that it changes nothing where it is false.
func (x *timers) again(now uint64) bool {
	x.t.Helper()
	was, plainWas := *x.x, *x.p
	got, want := x.x.Again(now), x.p.sayAgain(now)
	if got != want {
		x.t.Fatalf("%+v: Again at %d: %v, not %v", plainWas, now, got, want)
	}
	if !got && *x.x != was {
		x.t.Fatalf("%+v: Again at %d, which was false, changed the timer", plainWas, now)
	}
	return got
}

// edges holds Due at all moments at which it might turn over.
func (x *timers) edges() {
	x.t.Helper()
	wait := plainWait(x.p.rules, x.p.again)
	for by := range uint64(3) {
		// Moments that turn over are moments too.
		x.due(x.p.said + wait - 1 + by)
		x.due(x.p.said - 1 + by)
		x.due(by)
		x.due(greatest - by)
	}
}

// plain is a session by the chapter's words: the numbers that came, each one in full.
type plain struct {
	key, other []byte
	n          uint64
	rules      Rules
	born       uint64
	sent       uint64
	came       map[uint64]bool
	most       uint64
}

// nonce is the AEAD's, of a number, by chapter 16.
func nonce(n uint64) []byte {
	b := long(n).FillBytes(make([]byte, 12))
	slices.Reverse(b[4:])
	return b
}

// boxed is a text that is sealed with a key and a number, by the AEAD.
func boxed(t testing.TB, key []byte, n uint64, text []byte) []byte {
	t.Helper()
	b, e := aead.Seal(key, nonce(n), nil, text)
	if e != api.OK {
		t.Fatalf("aead.Seal: error %d", int(e))
	}
	return b
}

func (p *plain) old(now uint64) bool { return reached(p.born, now, p.rules.Expire) }

func (p *plain) rekey(now uint64) bool {
	return reached(p.born, now, p.rules.Rekey) || p.sent >= p.rules.RekeyCount
}

func (p *plain) expired(now uint64) bool { return p.old(now) || p.sent >= p.rules.ExpireCount }

// refused is the error of a key or a number, by chapter 16.
func refused(key []byte, n uint64) api.Errno {
	if len(key) != 0 && len(key) != 32 {
		return api.ErrArg
	}
	if len(key) != 0 && n == greatest {
		return api.ErrNonce
	}
	return api.OK
}

// seal says P22.4's words of Seal.
func (p *plain) seal(t testing.TB, text []byte, now uint64) (uint64, []byte, api.Errno) {
	if p.expired(now) {
		return 0, nil, api.ErrExpired
	}
	if e := refused(p.key, p.n); e != api.OK {
		return 0, nil, e
	}
	number := p.n
	p.sent++
	if len(p.key) == 0 {
		return number, text, api.OK
	}
	p.n++
	return number, boxed(t, p.key, number, text), api.OK
}

// check says P20.1's words of Check. The sum is as great as it gets.
func (p *plain) check(n uint64) api.Errno {
	sum := new(big.Int).Add(long(n), big.NewInt(128))
	if p.came[n] || len(p.came) > 0 && long(p.most).Cmp(sum) >= 0 {
		return api.ErrReplay
	}
	return api.OK
}

// open says P22.4's words of Open.
func (p *plain) open(number uint64, box []byte, now uint64) ([]byte, api.Errno) {
	if p.old(now) {
		return nil, api.ErrExpired
	}
	if e := p.check(number); e != api.OK {
		return nil, e
	}
	if e := refused(p.other, number); e != api.OK {
		return nil, e
	}
	text := box
	if len(p.other) != 0 {
		var e api.Errno
		if text, e = aead.Open(p.other, nonce(number), nil, box); e != api.OK {
			return nil, e
		}
	}
	p.came[number] = true
	p.most = max(p.most, number)
	return text, api.OK
}

// pair is a session and the plain one to which it is held.
type pair struct {
	t *testing.T
	s *Session
	p *plain
}

// both are two sessions with these ciphers.
func both(t *testing.T, send, receive sym.Cipher, r Rules, now uint64) *pair {
	t.Helper()
	s := New(send, receive, r, now)
	if s == nil {
		t.Fatal("New: no session")
	}
	p := &plain{bytes.Clone(send.Key), bytes.Clone(receive.Key), send.N, r, now, 0, map[uint64]bool{}, 0}
	x := &pair{t, s, p}
	x.asks(now)
	return x
}

// snapshot is all of a session, in other memory.
func (x *pair) snapshot() Session {
	out := *x.s
	out.send.Key = bytes.Clone(out.send.Key)
	out.receive = bytes.Clone(out.receive)
	return out
}

// unchanged fails unless the session is as it was.
func (x *pair) unchanged(was Session, name string, of ...any) {
	x.t.Helper()
	if !reflect.DeepEqual(x.snapshot(), was) {
		x.t.Fatalf("%s %v changed the session", name, of)
	}
}

// asks holds Sent, and Rekey and Expired at a moment, to the plain session's, and looks that they change nothing.
func (x *pair) asks(now uint64) {
	x.t.Helper()
	was := x.snapshot()
	if got := x.s.Sent(); got != x.p.sent {
		x.t.Fatalf("Sent: %d, not %d", got, x.p.sent)
	}
	if got, want := x.s.Rekey(now), x.p.rekey(now); got != want {
		x.t.Fatalf("Rekey at %d, born at %d, %d sent, %+v: %v, not %v", now, x.p.born, x.p.sent, x.p.rules, got, want)
	}
	if got, want := x.s.Expired(now), x.p.expired(now); got != want {
		x.t.Fatalf("Expired at %d, born at %d, %d sent, %+v: %v, not %v", now, x.p.born, x.p.sent, x.p.rules, got, want)
	}
	x.unchanged(was, "Sent, Rekey, Expired", now)
}

// seal holds one Seal to the plain session's, and looks that it changes nothing where it is refused.
func (x *pair) seal(text []byte, now uint64) (uint64, []byte, api.Errno) {
	x.t.Helper()
	was := x.snapshot()
	n, box, e := x.s.Seal(text, now)
	wantN, wantBox, wantE := x.p.seal(x.t, text, now)
	if n != wantN || !bytes.Equal(box, wantBox) || e != wantE {
		x.t.Fatalf("Seal of %d bytes at %d: %d, %x, error %d, not %d, %x, error %d", len(text), now, n, box, int(e), wantN, wantBox, int(wantE))
	}
	if e != api.OK {
		x.unchanged(was, "Seal, which was refused,", now)
	}
	x.asks(now)
	return n, box, e
}

// open holds one Open to the plain session's, and looks that it changes nothing where it is refused.
func (x *pair) open(number uint64, box []byte, now uint64) ([]byte, api.Errno) {
	x.t.Helper()
	was := x.snapshot()
	text, e := x.s.Open(number, box, now)
	want, wantE := x.p.open(number, box, now)
	if !bytes.Equal(text, want) || e != wantE {
		x.t.Fatalf("Open of %d, %d bytes, at %d: %x, error %d, not %x, error %d", number, len(box), now, text, int(e), want, int(wantE))
	}
	if e != api.OK {
		x.unchanged(was, "Open, which was refused,", number, now)
	}
	x.asks(now)
	return text, e
}

// seals seals a text, and looks for this number and this error.
func (x *pair) seals(want api.Errno, number uint64, text []byte, now uint64) []byte {
	x.t.Helper()
	n, box, e := x.seal(text, now)
	if e != want || n != number {
		x.t.Fatalf("Seal at %d: number %d, error %d, not %d, error %d", now, n, int(e), number, int(want))
	}
	return box
}

// opens opens a box, and looks for this text.
func (x *pair) opens(text []byte, number uint64, box []byte, now uint64) {
	x.t.Helper()
	got, e := x.open(number, box, now)
	if e != api.OK || !bytes.Equal(got, text) {
		x.t.Fatalf("Open of %d at %d: %x, error %d, not %x", number, now, got, int(e), text)
	}
}

// refuses looks for this error of a box.
func (x *pair) refuses(want api.Errno, number uint64, box []byte, now uint64) {
	x.t.Helper()
	got, e := x.open(number, box, now)
	if e != want || got != nil {
		x.t.Fatalf("Open of %d at %d: %x, error %d, not error %d", number, now, got, int(e), int(want))
	}
}

// sentIs looks for this many that were sealed.
func (x *pair) sentIs(want uint64) {
	x.t.Helper()
	if got := x.s.Sent(); got != want {
		x.t.Fatalf("Sent: %d, not %d", got, want)
	}
}

// cipher is a cipher with a key, another one for each seed, and that number.
func cipher(seed int, n uint64) sym.Cipher { return sym.Cipher{Key: row(32, seed), N: n} }

// wide are rules by which nothing comes to its end soon.
func wide() Rules {
	return Rules{Rekey: greatest, Expire: greatest, RekeyCount: greatest, ExpireCount: greatest}
}

// ends are two sessions, each of which opens what the other one seals.
func ends(t *testing.T, r Rules, now uint64) (*pair, *pair) {
	t.Helper()
	return both(t, cipher(1, 0), cipher(2, 0), r, now), both(t, cipher(2, 0), cipher(1, 0), r, now)
}

// edges are numbers at which something might turn over.
func edges() []uint64 {
	out := []uint64{0, 1, 2, 3, 5, 10, 200, greatest, greatest - 1, greatest - 2}
	for _, at := range []uint64{8, 16, 31, 32, 53, 62, 63} {
		for by := range uint64(3) {
			out = append(out, 1<<at-1+by)
		}
	}
	return out
}
