package hand

import (
	"bytes"
	"crypto/ecdh"
	"crypto/hmac"
	"crypto/mlkem"
	"crypto/mlkem/mlkemtest"
	"crypto/sha3"
	"hash"
	"reflect"
	"strconv"
	"testing"

	"redan/aead"
	"redan/api"
	"redan/kem"
	"redan/pattern"
)

// mess are n bytes without order.
func mess(seed string, n int) []byte { return sha3.SumSHAKE256([]byte(seed), n) }

// join are rows, one behind the other.
func join(l ...[]byte) []byte { return bytes.Join(l, nil) }

// turned is a row with one byte changed.
func turned(b []byte, at int, by byte) []byte {
	out := bytes.Clone(b)
	out[at] ^= by
	return out
}

// spoil changes all bytes that a row could reach, those behind its end too.
func spoil(b []byte) {
	b = b[:cap(b)]
	for i := range b {
		b[i] = ^b[i]
	}
}

// must fails unless there is no error.
func must(t testing.TB, err error) {
	t.Helper()
	if err != nil {
		t.Fatal(err)
	}
}

// plainKeys are keys of a side, with the KEM's as the seed of the library's.
type plainKeys struct {
	priv, pub, seed, ek []byte
}

// plainPub is the library's public key of the curve.
func plainPub(t testing.TB, priv []byte) []byte {
	t.Helper()
	k, err := ecdh.X25519().NewPrivateKey(priv)
	must(t, err)
	return k.PublicKey().Bytes()
}

// plainKem is the library's KEM's key.
func plainKem(t testing.TB, seed []byte) *mlkem.DecapsulationKey768 {
	t.Helper()
	k, err := mlkem.NewDecapsulationKey768(seed)
	must(t, err)
	return k
}

// plainKeysOf are the keys of a private key and a seed.
func plainKeysOf(t testing.TB, priv, seed []byte) plainKeys {
	t.Helper()
	return plainKeys{priv, plainPub(t, priv), seed, plainKem(t, seed).EncapsulationKey().Bytes()}
}

// someone are somebody's long-lived keys.
func someone(t testing.TB, name string) plainKeys {
	t.Helper()
	return plainKeysOf(t, mess(name+", curve", 32), mess(name+", kem", 64))
}

// whole is the whole pair of keys, in new memory.
func (k plainKeys) whole(t testing.TB) api.Pair {
	t.Helper()
	ek, dk, e := kem.Gen(k.seed[:32], k.seed[32:])
	if e != api.OK || !bytes.Equal(ek, k.ek) {
		t.Fatalf("kem.Gen: error %d, or another key than the library's", int(e))
	}
	return api.Pair{Priv: bytes.Clone(k.priv), Pub: bytes.Clone(k.pub), Dk: dk, Ek: ek}
}

// public is the public pair of keys, in new memory.
func (k plainKeys) public() api.Pair {
	return api.Pair{Pub: bytes.Clone(k.pub), Ek: bytes.Clone(k.ek)}
}

// plain is a handshake by the chapter's words, seen from above: it knows both sides' private keys, and what both have
// mixed. It goes by the library's sums, curve and KEM.
type plain struct {
	p          pattern.Pattern
	at         int
	ck, h, key []byte
	n          uint64
	psk        []byte
	long, made [2]plainKeys // of the initiator, of the responder
}

// plainSum is the library's SHA3-256 of rows, one behind the other.
func plainSum(l ...[]byte) []byte {
	out := sha3.Sum256(join(l...))
	return out[:]
}

// plainMac is the library's HMAC.
func plainMac(key []byte, l ...[]byte) []byte {
	h := hmac.New(func() hash.Hash { return sha3.New256() }, key)
	h.Write(join(l...))
	return h.Sum(nil)
}

// plainThree are HKDF's three keys.
func plainThree(ck, in []byte) (a, b, c []byte) {
	x := plainMac(ck, in)
	a = plainMac(x, []byte{1})
	b = plainMac(x, a, []byte{2})
	return a, b, plainMac(x, b, []byte{3})
}

// plainNew says P17.1's words.
func plainNew(p pattern.Pattern, prologue []byte, initiator, responder plainKeys, psk []byte) *plain {
	h := plainSum([]byte("PQNoise_" + p.Name + "_X25519MLKEM768_ChaChaPoly_SHA3-256"))
	w := &plain{p: p, ck: h, h: h, psk: psk, long: [2]plainKeys{initiator, responder}}
	w.mixHash(prologue)
	for i, k := range w.long {
		if p.Known[i] {
			w.mixHash(join(k.pub, k.ek))
		}
	}
	return w
}

func (w *plain) mixHash(b []byte) { w.h = plainSum(w.h, b) }

func (w *plain) mixKey(in []byte) {
	w.ck, w.key, _ = plainThree(w.ck, in)
	w.n = 0
}

func (w *plain) mixBoth(in []byte) {
	var h []byte
	w.ck, h, w.key = plainThree(w.ck, in)
	w.n = 0
	w.mixHash(h)
}

func (w *plain) seal(t testing.TB, text []byte) []byte {
	t.Helper()
	out := bytes.Clone(text)
	if w.key != nil {
		nonce := make([]byte, 12)
		nonce[4] = byte(w.n) // a key seals far fewer than 256 texts here
		var e api.Errno
		if out, e = aead.Seal(w.key, nonce, w.h, text); e != api.OK {
			t.Fatalf("aead.Seal: error %d", int(e))
		}
		w.n++
	}
	w.mixHash(out)
	return out
}

// shared is the library's secret of the curve; nothing, where that is nought.
func shared(t testing.TB, priv, pub []byte) []byte {
	t.Helper()
	k, err := ecdh.X25519().NewPrivateKey(priv)
	must(t, err)
	u, err := ecdh.X25519().NewPublicKey(pub)
	must(t, err)
	secret, _ := k.ECDH(u)
	return secret
}

// part is where a token's bytes stand in a message, and whether they are sealed with a key. The payload's token is 0.
type part struct {
	token    pattern.Token
	from, to int
	keyed    bool
}

// altered says something else than a token would; nil is the token's own.
type altered func(token pattern.Token, b []byte) []byte

// say says the next message by P17.3's words, and where its parts stand. With something altered it is the message
// that the other side would take for right, as long as it takes it at all.
func (w *plain) say(t testing.TB, payload, chance []byte, alter altered) ([]byte, []part) {
	t.Helper()
	var message []byte
	var parts []part
	if alter == nil {
		alter = func(_ pattern.Token, b []byte) []byte { return b }
	}
	put := func(token pattern.Token, keyed bool, b []byte) {
		parts = append(parts, part{token, len(message), len(message) + len(b), keyed})
		message = append(message, b...)
	}
	draw := func(n int) []byte {
		b := bytes.Clone(chance[:n])
		chance = chance[n:]
		return b
	}
	me, you := 0, 1
	if !w.p.Messages[w.at].Init {
		me, you = 1, 0
	}
	curveSecret := func(keys [2]plainKeys) { w.mixKey(shared(t, keys[you].priv, keys[me].pub)) }
	for _, token := range w.p.Messages[w.at].Tokens {
		keyed := w.key != nil
		switch token {
		case pattern.E:
			w.made[me].priv = draw(32)
			w.made[me].pub = alter(token, plainPub(t, w.made[me].priv))
			put(token, false, w.made[me].pub)
			w.mixHash(w.made[me].pub)
		case pattern.E1:
			w.made[me].seed = draw(64)
			w.made[me].ek = alter(token, plainKem(t, w.made[me].seed).EncapsulationKey().Bytes())
			put(token, false, w.made[me].ek)
			w.mixHash(w.made[me].ek)
		case pattern.S:
			b := alter(token, join(w.long[me].pub, w.long[me].ek))
			w.long[me].pub, w.long[me].ek = b[:32], b[32:]
			put(token, keyed, w.seal(t, b))
		case pattern.EE:
			curveSecret([2]plainKeys{w.made[0], w.made[1]})
		case pattern.ES:
			curveSecret([2]plainKeys{w.made[0], w.long[1]})
		case pattern.SE:
			curveSecret([2]plainKeys{w.long[0], w.made[1]})
		case pattern.SS:
			curveSecret([2]plainKeys{w.long[0], w.long[1]})
		case pattern.Psk:
			w.mixBoth(w.psk)
		case pattern.Ekem:
			k := plainKem(t, w.made[you].seed)
			_, box, err := mlkemtest.Encapsulate768(k.EncapsulationKey(), draw(32))
			must(t, err)
			box = alter(token, box)
			secret, err := k.Decapsulate(box)
			must(t, err)
			put(token, false, box)
			w.mixHash(box)
			w.mixKey(secret)
		case pattern.Skem:
			k := plainKem(t, w.long[you].seed)
			_, box, err := mlkemtest.Encapsulate768(k.EncapsulationKey(), draw(32))
			must(t, err)
			box = alter(token, box)
			secret, err := k.Decapsulate(box)
			must(t, err)
			put(token, keyed, w.seal(t, box))
			w.mixKey(secret)
		}
	}
	if len(chance) != 0 {
		t.Fatalf("%d bytes of chance are left", len(chance))
	}
	keyed := w.key != nil
	put(0, keyed, w.seal(t, payload))
	w.at++
	return message, parts
}

// need is how many bytes of chance the next message takes.
func (w *plain) need() int {
	n := 0
	for _, token := range w.p.Messages[w.at].Tokens {
		n += map[pattern.Token]int{pattern.E: 32, pattern.Ekem: 32, pattern.Skem: 32, pattern.E1: 64}[token]
	}
	return n
}

// copied is the same one, to say something else with.
func (w *plain) copied() *plain {
	out := *w
	return &out
}

// twin is a handshake that is the same, all of it in new memory.
func twin(s *Shake) *Shake {
	out := *s
	out.messages = nil
	for _, m := range s.messages {
		out.messages = append(out.messages, pattern.Message{Init: m.Init, Tokens: append([]pattern.Token(nil), m.Tokens...)})
	}
	out.psk = bytes.Clone(s.psk)
	out.state.Ck, out.state.H, out.state.C.Key = bytes.Clone(s.state.Ck), bytes.Clone(s.state.H), bytes.Clone(s.state.C.Key)
	for _, k := range []*api.Pair{&out.own.made, &out.own.long, &out.other.made, &out.other.long} {
		*k = api.Pair{Priv: bytes.Clone(k.Priv), Pub: bytes.Clone(k.Pub), Dk: bytes.Clone(k.Dk), Ek: bytes.Clone(k.Ek)}
	}
	return &out
}

// same tells whether two handshakes are the same in all that they keep.
func same(a, b *Shake) bool { return reflect.DeepEqual(twin(a), twin(b)) }

// answers fails unless there is no error, and the bytes are the right ones.
func answers(t testing.TB, got []byte, e api.Errno, want []byte, name string, of ...any) {
	t.Helper()
	if e != api.OK {
		t.Fatalf("%s %v: error %d", name, of, int(e))
	}
	if len(got) != len(want) {
		t.Fatalf("%s %v: %d bytes, want %d", name, of, len(got), len(want))
	}
	for i := range got {
		if got[i] != want[i] {
			t.Fatalf("%s %v: %x at %d, want %x", name, of, got[i], i, want[i])
		}
	}
}

// refuses fails unless the error is that one, with nothing beside it.
func refuses(t testing.TB, got []byte, e, want api.Errno, name string, of ...any) {
	t.Helper()
	if e != want {
		t.Fatalf("%s %v: error %d, want %d", name, of, int(e), int(want))
	}
	if len(got) != 0 {
		t.Fatalf("%s %v: %d bytes beside an error", name, of, len(got))
	}
}

// refusesToRead fails unless a message is refused so, and the handshake stays as it is.
func refusesToRead(t testing.TB, s *Shake, message []byte, want api.Errno, name string, of ...any) {
	t.Helper()
	before := twin(s)
	got, e := s.Read(message)
	refuses(t, got, e, want, "Read: "+name, of...)
	if !same(s, before) {
		t.Fatalf("Read: %s %v: an error, and something changed", name, of)
	}
}

// refusesToWrite fails unless a payload is refused so, and the handshake stays as it is.
func refusesToWrite(t testing.TB, s *Shake, payload, chance []byte, want api.Errno, name string, of ...any) {
	t.Helper()
	before := twin(s)
	got, e := s.Write(payload, chance)
	refuses(t, got, e, want, "Write: "+name, of...)
	if !same(s, before) {
		t.Fatalf("Write: %s %v: an error, and something changed", name, of)
	}
}

// parsed is the pattern of a text.
func parsed(t testing.TB, text string) pattern.Pattern {
	t.Helper()
	p, e := pattern.Parse(text)
	if e != api.OK {
		t.Fatalf("pattern.Parse of %q: error %d", text, int(e))
	}
	if e := pattern.Check(p); e != api.OK {
		t.Fatalf("pattern.Check of %q: error %d", text, int(e))
	}
	return p
}

// given is one of the given patterns.
func given(t testing.TB, name string) pattern.Pattern {
	t.Helper()
	text, there := pattern.Given(name)
	if !there {
		t.Fatalf("no pattern %s", name)
	}
	return parsed(t, text)
}

// further are patterns beside the given ones: with keys of either side, of both and of none known, with `s` and `skem`
// that are sealed without a key, with messages that take no chance, without a secret, of one message and of eight.
func further() []string {
	return []string{
		"N:\n<- s\n...\n-> skem, e, es\n",
		"K:\n-> s\n<- s\n...\n-> e, ss, es, skem\n",
		"KN:\n-> s\n...\n-> e, e1\n<- skem, ekem, e, se, ee\n",
		"I:\n-> s\n<- skem, s, e\n-> skem, ss, e, se\n<- ee\n-> es\n",
		"Plain:\n-> s, e, e1\n<- e1, s, e\n",
		"One:\n-> e\n",
		"Psk:\n-> e, psk, s\n<- e1, skem\n-> ekem, e1\n",
		"Psk1:\n<- s\n...\n-> e1, psk, skem\n<- ekem, e1\n",
		"Eight:\n-> e\n<- e1\n-> ekem\n<- e\n-> e1\n<- ekem\n-> ee\n<- psk\n",
		"ThisNameHas32LettersAndDigits123:\n-> s\n<- e, s\n-> e, es, se, ss, ee\n<- skem\n-> skem\n",
	}
}

// patterns are the given ones and the further ones.
func patterns(t testing.TB) []pattern.Pattern {
	t.Helper()
	var out []pattern.Pattern
	for _, name := range pattern.Names() {
		out = append(out, given(t, name))
	}
	for _, text := range further() {
		out = append(out, parsed(t, text))
	}
	return out
}

// both are two sides of a handshake, and the plain one.
type both struct {
	sides                [2]*Shake // the initiator, the responder
	w                    *plain
	initiator, responder plainKeys
}

// begun are two sides that know of each other what the pattern asks for, with all of their own.
func begun(t testing.TB, p pattern.Pattern, prologue []byte) *both {
	t.Helper()
	psk := mess("psk", 32)
	x := &both{initiator: someone(t, "the initiator"), responder: someone(t, "the responder")}
	x.w = plainNew(p, prologue, x.initiator, x.responder, psk)
	for i, init := range []bool{true, false} {
		own, other := x.initiator, x.responder
		if !init {
			own, other = other, own
		}
		s, e := New(p, init, prologue, own.whole(t), other.public(), psk)
		if e != api.OK || s == nil {
			t.Fatalf("New of %s, initiator %v: error %d", p.Name, init, int(e))
		}
		x.sides[i] = s
	}
	return x
}

// next are the side that says the next message, and the one that reads it.
func (x *both) next() (writer, reader *Shake) {
	if x.w.p.Messages[x.w.at].Init {
		return x.sides[0], x.sides[1]
	}
	return x.sides[1], x.sides[0]
}

// over tells whether there are no more messages.
func (x *both) over() bool { return x.w.at == len(x.w.p.Messages) }

// chance is what the next message takes, other bytes for each.
func (x *both) chance() []byte {
	return mess(x.w.p.Name+", chance "+strconv.Itoa(x.w.at), x.w.need())
}

// payload is that of the next message.
func (x *both) payload() []byte { return mess("payload", 7*x.w.at) }

// pass writes the next message and reads it, and holds both against the plain one.
func (x *both) pass(t testing.TB) {
	t.Helper()
	writer, reader := x.next()
	payload, chance, at := x.payload(), x.chance(), x.w.at
	want, _ := x.w.say(t, payload, chance, nil)
	message, e := writer.Write(payload, chance)
	answers(t, message, e, want, "Write", x.w.p.Name, at)
	got, e := reader.Read(message)
	answers(t, got, e, payload, "Read", x.w.p.Name, at)
}

// passTo goes on till the message at that place is the next one.
func (x *both) passTo(t testing.TB, at int) {
	t.Helper()
	for x.w.at < at {
		x.pass(t)
	}
}

// finish goes on till the end, and holds what is told there against the plain one.
func (x *both) finish(t testing.TB) {
	t.Helper()
	x.passTo(t, len(x.w.p.Messages))
	first, second, _ := plainThree(x.w.ck, nil)
	for i, s := range x.sides {
		if !bytes.Equal(s.Hash(), x.w.h) {
			t.Fatalf("%s: Hash of side %d: %x, want %x", x.w.p.Name, i, s.Hash(), x.w.h)
		}
		send, receive, e := s.Split()
		answers(t, send.Key, e, [][]byte{first, second}[i], "Split, to send with", x.w.p.Name, i)
		answers(t, receive.Key, e, [][]byte{second, first}[i], "Split, to receive with", x.w.p.Name, i)
		if send.N != 0 || receive.N != 0 {
			t.Fatalf("%s: Split of side %d: N %d, %d", x.w.p.Name, i, send.N, receive.N)
		}
	}
}
