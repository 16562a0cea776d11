package aead

import (
	"bytes"
	"crypto/sha3"
	"encoding/hex"
	"fmt"
	"slices"
	"testing"

	"redan/api"
	"redan/chacha"
	"redan/poly"
)

// row is a row of n bytes, another one for each seed.
func row(n, seed int) []byte {
	out := make([]byte, n)
	x := uint32(seed)*2654435761 + 12345
	for i := range n {
		x = x*1664525 + 1013904223
		out[i] = byte(x >> 24)
	}
	return out
}

// full is a row of n bytes 255.
func full(n int) []byte { return bytes.Repeat([]byte{255}, n) }

// spoil changes all bytes that a row could reach, those behind its end too.
func spoil(b []byte) {
	b = b[:cap(b)]
	for i := range b {
		b[i] = ^b[i]
	}
}

// turned is a row with one of its bits turned.
func turned(b []byte, place int) []byte {
	out := bytes.Clone(b)
	out[place/8] ^= 1 << (place % 8)
	return out
}

// fromHex are the bytes of a text.
func fromHex(t testing.TB, text string) []byte {
	t.Helper()
	out, err := hex.DecodeString(text)
	if err != nil {
		t.Fatal(err)
	}
	return out
}

// same fails unless two rows are the same.
func same(t *testing.T, name string, got, want []byte) {
	t.Helper()
	if !bytes.Equal(got, want) {
		t.Fatalf("%s: %x, want %x", name, got, want)
	}
}

// call is one of the three.
type call func(key, nonce, ad, b []byte) ([]byte, api.Errno)

// calls are all of them.
func calls() map[string]call { return map[string]call{"Seal": Seal, "Open": Open, "Tag": Tag} }

// answers fails unless a call answers those bytes, and no error.
func answers(t *testing.T, name string, c call, key, nonce, ad, b, want []byte) {
	t.Helper()
	got, e := c(key, nonce, ad, b)
	if e != api.OK || !bytes.Equal(got, want) {
		t.Fatalf("%s of %x, %x, %d bytes beside and %d bytes: %x, %d, want %x", name, key, nonce, len(ad), len(b), got, e, want)
	}
}

// refuses fails unless a call answers an error, and nothing beside it.
func refuses(t *testing.T, name string, c call, key, nonce, ad, b []byte, want api.Errno) {
	t.Helper()
	got, e := c(key, nonce, ad, b)
	if e != want || got != nil {
		t.Fatalf("%s (%d, %d, %d and %d bytes): %x, error %d, want error %d and nothing", name, len(key), len(nonce), len(ad), len(b), got, e, want)
	}
}

// sealedOf is what Seal answers of what it can't refuse.
func sealedOf(t *testing.T, key, nonce, ad, text []byte) []byte {
	t.Helper()
	out, e := Seal(key, nonce, ad, text)
	if e != api.OK {
		t.Fatalf("Seal: error %d", e)
	}
	return out
}

// plainFilled says the chapter's word: the fewest bytes 0 that make a multiple of 16, found by trying.
func plainFilled(b []byte) []byte {
	for n := range 16 {
		if out := slices.Concat(b, make([]byte, n)); len(out)%16 == 0 {
			return out
		}
	}
	return nil
}

// plainLength says the chapter's word: eight bytes, the lowest first.
func plainLength(b []byte) []byte {
	out, left := make([]byte, 8), len(b)
	for i := range out {
		out[i] = byte(left % 256)
		left /= 256
	}
	return out
}

// plainTag says the words of P9.1.
func plainTag(key, nonce, ad, box []byte) []byte {
	all := slices.Concat(plainFilled(ad), plainFilled(box), plainLength(ad), plainLength(box))
	return poly.Mac(chacha.Block(key, 0, nonce)[:32], all)
}

// plainSeal says the words of P9.2.
func plainSeal(key, nonce, ad, text []byte) []byte {
	box := chacha.Stream(key, 1, nonce, text)
	return slices.Concat(box, plainTag(key, nonce, ad, box))
}

// keys and nonces are bytes 0, bytes 255, counted ones, and ones without order.
func keys() [][]byte   { return rows(32) }
func nonces() [][]byte { return rows(12) }

func rows(n int) [][]byte {
	counted := make([]byte, n)
	for i := range counted {
		counted[i] = byte(i)
	}
	out := [][]byte{make([]byte, n), full(n), counted, append(make([]byte, n-1), 128), append([]byte{1}, make([]byte, n-1)...)}
	for seed := range 3 {
		out = append(out, row(n, 100*n+seed))
	}
	return out
}

// sizes are those about multiples of 16 and whole blocks, and about where a length has a byte more.
func sizes() []int {
	return []int{0, 1, 2, 7, 8, 14, 15, 16, 17, 18, 31, 32, 33, 47, 48, 49, 63, 64, 65, 79, 80, 81, 127, 128, 129, 255, 256, 257}
}

// eachPair goes through two sizes of the list, with a key and a nonce that change with them.
func eachPair(check func(key, nonce []byte, n, m int)) {
	for i, n := range sizes() {
		for j, m := range sizes() {
			check(keys()[(i+j)%len(keys())], nonces()[(i+3*j)%len(nonces())], n, m)
		}
	}
}

// standard is what RFC 8439 seals in one of its examples.
type standard struct {
	name, key, nonce, ad, text, box, tag string
}

// standards are those of 2.8.2 and A.5.
func standards() []standard {
	sunscreen := "Ladies and Gentlemen of the class of '99: If I could offer you only one tip for the future, sunscreen would be it."
	drafts := "Internet-Drafts are draft documents valid for a maximum of six months and may be updated, replaced, or obsoleted by other documents at any time. " +
		"It is inappropriate to use Internet-Drafts as reference material or to cite them other than as /\u201cwork in progress./\u201d"
	return []standard{
		{
			"2.8.2", "808182838485868788898a8b8c8d8e8f909192939495969798999a9b9c9d9e9f", "070000004041424344454647", "50515253c0c1c2c3c4c5c6c7", sunscreen,
			"d31a8d34648e60db7b86afbc53ef7ec2a4aded51296e08fea9e2b5a736ee62d63dbea45e8ca9671282fafb69da92728b1a71de0a9e060b2905d6a5b67ecd3b36" +
				"92ddbd7f2d778b8c9803aee328091b58fab324e4fad675945585808b4831d7bc3ff4def08e4b7a9de576d26586cec64b6116",
			"1ae10b594f09e26a7e902ecbd0600691",
		},
		{
			"A.5", "1c9240a5eb55d38af333888604f6b5f0473917c1402b80099dca5cbc207075c0", "000000000102030405060708", "f33388860000000000004e91", drafts,
			"64a0861575861af460f062c79be643bd5e805cfd345cf389f108670ac76c8cb24c6cfc18755d43eea09ee94e382d26b0bdb7b73c321b0100d4f03b7f355894cf" +
				"332f830e710b97ce98c8a84abd0b948114ad176e008d33bd60f982b1ff37c8559797a06ef4f0ef61c186324e2b3506383606907b6a7c02b0f9f6157b53c867e4" +
				"b9166c767b804d46a59b5216cde7a4e99040c5a40433225ee282a1b0a06c523eaf4534d7f83fa1155b0047718cbc546a0d072b04b3564eea1b422273f548271a" +
				"0bb2316053fa76991955ebd63159434ecebb4e466dae5a1073a6727627097a1049e617d91d361094fa68f0ff77987130305beaba2eda04df997b714d6c6f2c29" +
				"a6ad5cb4022b02709b",
			"eead9d67890cbb22392336fea1851f38",
		},
	}
}

// P9.2: the chapter's examples.
func TestExamples(t *testing.T) {
	key, nonce, ad := row(32, 1), row(12, 2), row(5, 3)
	sealed := sealedOf(t, key, nonce, ad, []byte("text"))
	for bit := range 8 {
		refuses(t, "Open, one bit of the last byte turned", Open, key, nonce, ad, turned(sealed, 8*len(sealed)-1-bit), api.ErrAuth)
	}
	refuses(t, "Open of 15 bytes", Open, key, nonce, ad, make([]byte, 15), api.ErrShort)
	refuses(t, "Open of the first 15 bytes of a sealed row", Open, key, nonce, ad, sealed[:15], api.ErrShort)
}

// P9.1, P9.2: RFC 8439, 2.8.2 and A.5.
func TestOfTheStandard(t *testing.T) {
	for _, c := range standards() {
		key, nonce, ad := fromHex(t, c.key), fromHex(t, c.nonce), fromHex(t, c.ad)
		box, tag := fromHex(t, c.box), fromHex(t, c.tag)
		answers(t, c.name+": Tag", Tag, key, nonce, ad, box, tag)
		answers(t, c.name+": Seal", Seal, key, nonce, ad, []byte(c.text), slices.Concat(box, tag))
		answers(t, c.name+": Open", Open, key, nonce, ad, slices.Concat(box, tag), []byte(c.text))
	}
}

// P9.1, P9.2: what OpenSSL makes of rows of some sizes: without order, and of bytes 255 alone.
// Of each the tag stands here, and how the sum SHA3-256 of all that is sealed begins.
func TestOfTheLibrary(t *testing.T) {
	for _, c := range []struct {
		beside, text             int
		tag, sum, allTag, allSum string
	}{
		{0, 0, "61c8c70e95943921124becbd42040676", "f138da26cd66d086", "0b5528ab3ff425fbf1fce9fcfb979029", "7df392864cfe38ef"},
		{0, 1, "647fffd7363a559029631971830952a6", "4d02f95829bbfb60", "1a97b3f469f5560d7aadccbec2978ad6", "c1157b7b455e2d08"},
		{1, 0, "8ab89e8c2b28f89d6765d92aabdb24cc", "26ebfa745740ad6a", "1025d66e5d7faeff7ce9d831679832cd", "b0242d2be61b4ec0"},
		{15, 15, "b78d860b2f9cbf7f3f04834ad85568d2", "4d44e86cca30b062", "d43bb0e8fc534bb806af7e373869f2b5", "dea2b26b6238fd88"},
		{16, 16, "060bdff898b17dd57600698cf8c94f73", "f7466219579ec3ad", "d8ae4f8a6eb98f32471e5fcb147b5e40", "442354c5582c0b93"},
		{17, 17, "390a9b796cd9f7d57fc966ca7383785e", "94fc450eda890a7e", "34c6e010bb7fef6ab08625425394d1ab", "e81726eff8791427"},
		{16, 0, "7a3d059d71cc968edeec589d087f54b9", "baff111394cb9476", "b027b7732d767b4085f0d2c585390ca0", "b7fbd09a64db3ebc"},
		{0, 16, "ae7f629d6deea61b952c99f299179cd5", "ecb33d766c64794d", "a0e5d5014c0d3b2d3a8b00548cd8d221", "24bfc1be3baff2d3"},
		{31, 33, "9c2e7d5b486503bc6bee206bebab9f2d", "588b1b891049fb2d", "df20a4b5371d21d4f801d4975bbb8eb6", "06166f337e53a1f2"},
		{12, 114, "ecdc0b70644d2b94bd74937b50f1cc89", "5f326abd1e71a013", "d49a4906fc6cb5f6cd68cf39ffc05e17", "31beddef9c4ad34d"},
		{64, 63, "bec40d11ffe53a3d570daf5bdc377b24", "cebf4654e347d8b8", "056e4c1b6b993b5fbce9e5689b458953", "dd7e31b6ec40b040"},
		{63, 64, "eece0fe2a4707c2b3f260ccc09f0d2f4", "11ea208850d27f5a", "0345ed26d264e5571a0551128ce94662", "bef7e0dc20ad3bab"},
		{5, 65, "3ca7d35cb0dadeb1716bb31c6051c2ca", "1535a1550432b101", "6365bb6c33a91bef4cf6591418f1fd4b", "ee0c06fcc4360a64"},
		{255, 256, "107719bf4a842e3980673eba18649d9d", "26e6bf833ada644a", "195d05432899b67b0e90dd2082c9dfe9", "cfc7a7e14cc4d748"},
		{256, 255, "15bbdfbbbedd5670e1d922b3a2607be8", "a123e842b3cf97aa", "9ae467a2588cdf3b2fb1ccb1e0b3595a", "c8615052253b6777"},
		{257, 1024, "dbfaa482dd649a342223479b1060b7f4", "0b3197ffc6c642ba", "d39c3f30c08e3e4ba6be2f02a96b6dd1", "ed6ff8faea8ca147"},
		{65535, 1, "9a06bee39fbf39cc7c701cb718d6f68d", "93a0023fa400e26b", "f3c4209e43e369572689f1d3501a31ce", "4fe856c630098373"},
		{65536, 65537, "f2b1f98e67c578ac6b41d2d1ad0ccf5e", "f215503a1a20ac15", "d1b2e71baa338cfbb11c882cb6407afb", "83e35b40786bcb2c"},
		{3, 100001, "f08493b5939704569d6127a8f62bdd57", "657531b766552b5f", "fc3e355c33e9c4a1d10f4703474448b4", "b929546c1ca20288"},
		{1 << 24, 7, "3b78e355692453466b15e3d12b5c2f27", "31dcd3a585292d4c", "edd68675576551ff34f7bd5c0184cc0e", "eb52f9331165ba14"},
		{7, 1 << 20, "4bf55fd4c6076a8da66452fea0823550", "907bfba239303d0c", "ce11e0f7a91bd6a496f56e3728802359", "c2fe02aeb9f09cd1"},
	} {
		name := fmt.Sprintf("%d bytes beside, %d of text", c.beside, c.text)
		ofTheLibrary(t, name, row(32, c.beside+c.text+1), row(12, c.beside+2), row(c.beside, c.beside+3), row(c.text, c.text+4), c.tag, c.sum)
		ofTheLibrary(t, name+", all 255", full(32), full(12), full(c.beside), full(c.text), c.allTag, c.allSum)
	}
}

func ofTheLibrary(t *testing.T, name string, key, nonce, ad, text []byte, tag, sum string) {
	t.Helper()
	sealed := sealedOf(t, key, nonce, ad, text)
	if len(sealed) != len(text)+16 {
		t.Fatalf("%s: %d bytes are sealed", name, len(sealed))
	}
	same(t, name+": the tag", sealed[len(text):], fromHex(t, tag))
	all := sha3.Sum256(sealed)
	same(t, name+": the sum of all", all[:8], fromHex(t, sum))
	if got, e := Tag(key, nonce, ad, sealed[:len(text)]); e != api.OK || hex.EncodeToString(got) != tag {
		t.Fatalf("%s: Tag %x, error %d", name, got, e)
	}
	if got, e := Open(key, nonce, ad, sealed); e != api.OK || !bytes.Equal(got, text) {
		t.Fatalf("%s: it isn't opened: error %d", name, e)
	}
}

// P9.1: rows beside and boxes of all sizes, by the promise's words.
func TestTagByItsWords(t *testing.T) {
	eachPair(func(key, nonce []byte, n, m int) {
		for _, c := range [][2][]byte{{row(n, n), row(m, m+1)}, {make([]byte, n), make([]byte, m)}, {full(n), full(m)}} {
			answers(t, "Tag", Tag, key, nonce, c[0], c[1], plainTag(key, nonce, c[0], c[1]))
		}
	})
}

// P9.1: keys and nonces of all kinds, by the promise's words.
func TestTagOfKeysAndNonces(t *testing.T) {
	for _, key := range keys() {
		for _, nonce := range nonces() {
			ad, box := row(13, 1), row(40, 2)
			answers(t, "Tag", Tag, key, nonce, ad, box, plainTag(key, nonce, ad, box))
			answers(t, "Tag of nothing", Tag, key, nonce, nil, nil, plainTag(key, nonce, nil, nil))
		}
	}
}

// P9.1: a Tag has 16 bytes, whatever it is of.
func TestTagHasSixteenBytes(t *testing.T) {
	eachPair(func(key, nonce []byte, n, m int) {
		if got, e := Tag(key, nonce, row(n, 1), row(m, 2)); e != api.OK || len(got) != 16 {
			t.Fatalf("Tag of %d and %d bytes has %d, error %d", n, m, len(got), e)
		}
	})
}

// P9.1: of nothing at all the tag is of two lengths 0, and so the second half of its key.
func TestTagOfNothing(t *testing.T) {
	for _, key := range keys() {
		nonce := row(12, int(key[0]))
		block := chacha.Block(key, 0, nonce)
		answers(t, "Tag of nothing", Tag, key, nonce, nil, nil, poly.Mac(block[:32], make([]byte, 16)))
	}
}

// P9.2: texts and rows beside of all sizes, by the promise's words.
func TestSealByItsWords(t *testing.T) {
	eachPair(func(key, nonce []byte, n, m int) {
		for _, c := range [][2][]byte{{row(n, n), row(m, m+1)}, {make([]byte, n), make([]byte, m)}, {full(n), full(m)}} {
			answers(t, "Seal", Seal, key, nonce, c[0], c[1], plainSeal(key, nonce, c[0], c[1]))
		}
	})
}

// P9.2: what is sealed by the promise's words is opened.
func TestOpenByItsWords(t *testing.T) {
	eachPair(func(key, nonce []byte, n, m int) {
		ad, text := row(n, n), row(m, m+1)
		answers(t, "Open", Open, key, nonce, ad, plainSeal(key, nonce, ad, text), text)
		// Any box has a tag, also one that nobody sealed.
		box := row(m, m+2)
		sealed := slices.Concat(box, plainTag(key, nonce, ad, box))
		answers(t, "Open of a box", Open, key, nonce, ad, sealed, chacha.Stream(key, 1, nonce, box))
	})
}

// P9.2: each size up to more than three blocks.
func TestEachSize(t *testing.T) {
	key, nonce := row(32, 4), row(12, 5)
	for n := range 210 {
		for _, ad := range [][]byte{nil, row(n, 6)} {
			text := row(n, 7)
			sealed := plainSeal(key, nonce, ad, text)
			answers(t, "Seal", Seal, key, nonce, ad, text, sealed)
			answers(t, "Open", Open, key, nonce, ad, sealed, text)
		}
	}
}

// P9.2: a tag alone is a text of no bytes; of 16 other bytes there is none.
func TestSealedOfSixteenBytes(t *testing.T) {
	for _, n := range sizes() {
		key, nonce, ad := row(32, n), row(12, n+1), row(n, n+2)
		sealed := sealedOf(t, key, nonce, ad, nil)
		if len(sealed) != 16 {
			t.Fatalf("no text is sealed in %d bytes", len(sealed))
		}
		same(t, "no text, sealed", sealed, plainTag(key, nonce, ad, nil))
		answers(t, "Open of a tag alone", Open, key, nonce, ad, sealed, nil)
		refuses(t, "Open of 16 bytes 0", Open, key, nonce, ad, make([]byte, 16), api.ErrAuth)
		refuses(t, "Open of 16 bytes 255", Open, key, nonce, ad, full(16), api.ErrAuth)
		refuses(t, "Open of 17 bytes", Open, key, nonce, ad, append(bytes.Clone(sealed), 0), api.ErrAuth)
		refuses(t, "Open of 17 bytes", Open, key, nonce, ad, append([]byte{0}, sealed...), api.ErrAuth)
	}
}

// wrongSizes are keys and nonces of which at least one hasn't so many bytes as it must.
func wrongSizes() [][2][]byte {
	key, nonce := row(32, 1), row(12, 2)
	out := [][2][]byte{{nil, nil}, {nil, nonce}, {key, nil}, {{}, {}}, {nonce, key}, {key, key}, {nonce, nonce}}
	few := []int{100, 128, 255, 256, 1 << 10, 1 << 16}
	for n := range 70 {
		few = append(few, n)
	}
	for _, n := range few {
		if n != 32 {
			out = append(out, [2][]byte{row(n, n), nonce}, [2][]byte{make([]byte, n), make([]byte, 12)})
		}
		if n != 12 {
			out = append(out, [2][]byte{key, row(n, n)}, [2][]byte{make([]byte, 32), make([]byte, n)})
		}
		if n != 32 && n != 12 {
			out = append(out, [2][]byte{row(n, n), row(n, n+1)}, [2][]byte{row(n, n), nil}, [2][]byte{nil, row(n, n)})
		}
	}
	// As many bytes as both need, but parted elsewhere.
	all := row(44, 3)
	for cut := range 45 {
		if cut != 32 {
			out = append(out, [2][]byte{all[:cut:cut], all[cut:]})
		}
	}
	return out
}

// P9.1, P9.2: ErrArg of keys and nonces that haven't 32 and 12 bytes, ahead of all that else is wrong.
func TestWrongSizes(t *testing.T) {
	sealed := sealedOf(t, row(32, 1), row(12, 2), nil, row(20, 3))
	for _, c := range wrongSizes() {
		for _, b := range [][]byte{nil, {}, {1}, row(15, 1), row(16, 1), row(17, 1), row(200, 1), sealed, sealed[:15]} {
			for _, ad := range [][]byte{nil, row(16, 2), row(33, 2)} {
				for name, call := range calls() {
					refuses(t, name, call, c[0], c[1], ad, b, api.ErrArg)
				}
			}
		}
	}
}

// P9.1: what lies behind a key or a nonce in memory doesn't count.
func TestRowsEndWhereTheyEnd(t *testing.T) {
	roomKey, roomNonce, roomAd, roomB := row(64, 1), row(64, 2), row(300, 3), row(300, 4)
	key, nonce := bytes.Clone(roomKey[:32]), bytes.Clone(roomNonce[:12])
	for n := range 100 {
		ad, b := bytes.Clone(roomAd[:n]), bytes.Clone(roomB[:99-n])
		answers(t, "Tag", Tag, roomKey[:32], roomNonce[:12], roomAd[:n], roomB[:99-n], plainTag(key, nonce, ad, b))
		answers(t, "Seal", Seal, roomKey[:32], roomNonce[:12], roomAd[:n], roomB[:99-n], plainSeal(key, nonce, ad, b))
		sealed := plainSeal(key, nonce, ad, b)
		room := slices.Concat(sealed, row(40, 5))
		answers(t, "Open", Open, roomKey[:32], roomNonce[:12], roomAd[:n], room[:len(sealed)], b)
	}
	for name, call := range calls() {
		refuses(t, name, call, roomKey[:31], nonce, nil, roomB, api.ErrArg)
		refuses(t, name, call, key, roomNonce[:11], nil, roomB, api.ErrArg)
	}
}

// P9.2: ErrShort of fewer than 16 bytes, whatever they are.
func TestShort(t *testing.T) {
	key, nonce := row(32, 1), row(12, 2)
	for _, ad := range [][]byte{nil, row(3, 3), row(16, 3)} {
		for _, text := range [][]byte{nil, row(40, 4)} {
			sealed := sealedOf(t, key, nonce, ad, text)
			for n := range 16 {
				refuses(t, "Open of a sealed row's first bytes", Open, key, nonce, ad, sealed[:n], api.ErrShort)
				refuses(t, "Open of a sealed row's last bytes", Open, key, nonce, ad, sealed[len(sealed)-n:], api.ErrShort)
				refuses(t, "Open of bytes 0", Open, key, nonce, ad, make([]byte, n), api.ErrShort)
			}
		}
		refuses(t, "Open of nothing", Open, key, nonce, ad, nil, api.ErrShort)
	}
}

// P9.2: Tag and Seal take boxes and texts of fewer than 16 bytes: it is Open alone that is short of a tag.
func TestShortTextsAreSealed(t *testing.T) {
	key, nonce := row(32, 1), row(12, 2)
	for n := range 16 {
		answers(t, "Seal", Seal, key, nonce, nil, row(n, 3), plainSeal(key, nonce, nil, row(n, 3)))
		answers(t, "Tag", Tag, key, nonce, nil, row(n, 3), plainTag(key, nonce, nil, row(n, 3)))
	}
}

// P9.2: each bit of a tag, a box, a row beside, a key and a nonce counts, each for itself.
func TestEachBitCounts(t *testing.T) {
	for _, n := range []int{0, 1, 15, 16, 17, 33} {
		for _, m := range []int{0, 1, 15, 16, 17, 70} {
			key, nonce, ad := row(32, n), row(12, m), row(n, 3)
			sealed := sealedOf(t, key, nonce, ad, row(m, 4))
			for place := range 8 * len(sealed) {
				refuses(t, fmt.Sprint("the sealed row's bit ", place), Open, key, nonce, ad, turned(sealed, place), api.ErrAuth)
			}
			for place := range 8 * len(ad) {
				refuses(t, fmt.Sprint("the bit beside ", place), Open, key, nonce, turned(ad, place), sealed, api.ErrAuth)
			}
			for place := range 8 * len(key) {
				refuses(t, fmt.Sprint("the key's bit ", place), Open, turned(key, place), nonce, ad, sealed, api.ErrAuth)
			}
			for place := range 8 * len(nonce) {
				refuses(t, fmt.Sprint("the nonce's bit ", place), Open, key, turned(nonce, place), ad, sealed, api.ErrAuth)
			}
		}
	}
}

// P9.1: each bit of what a tag is of makes another tag, and all of them differ.
func TestEachBitMakesAnotherTag(t *testing.T) {
	seen := map[string]string{}
	note := func(name string, key, nonce, ad, box []byte) {
		t.Helper()
		tag, e := Tag(key, nonce, ad, box)
		if other, ok := seen[string(tag)]; ok || e != api.OK {
			t.Fatalf("the tag of %s is that of %s (error %d)", name, other, e)
		}
		seen[string(tag)] = name
	}
	key, nonce, ad, box := row(32, 1), row(12, 2), row(20, 3), row(35, 4)
	note("none turned", key, nonce, ad, box)
	for place := range 256 {
		note(fmt.Sprint("the key's bit ", place), turned(key, place), nonce, ad, box)
	}
	for place := range 96 {
		note(fmt.Sprint("the nonce's bit ", place), key, turned(nonce, place), ad, box)
	}
	for place := range 8 * len(ad) {
		note(fmt.Sprint("the bit beside ", place), key, nonce, turned(ad, place), box)
	}
	for place := range 8 * len(box) {
		note(fmt.Sprint("the box's bit ", place), key, nonce, ad, turned(box, place))
	}
}

// P9.1: where the row beside ends counts: of one row, parted at all places, no two tags are the same.
func TestPartingCounts(t *testing.T) {
	key, nonce := row(32, 1), row(12, 2)
	for _, all := range [][]byte{row(70, 3), make([]byte, 70), full(70)} {
		seen := map[string]int{}
		for cut := range len(all) + 1 {
			tag, _ := Tag(key, nonce, all[:cut], all[cut:])
			if other, ok := seen[string(tag)]; ok {
				t.Fatalf("parted at %d the tag is that of %d", cut, other)
			}
			seen[string(tag)] = cut
		}
	}
}

// P9.1: bytes 0 count that stand where a row would be filled up, beside and in the box.
func TestFilledBytesCount(t *testing.T) {
	key, nonce := row(32, 1), row(12, 2)
	for _, n := range sizes() {
		seen := map[string]string{}
		for more := range 33 {
			longer := append(row(n, 3), make([]byte, more)...)
			for name, c := range map[string][2][]byte{"beside": {longer, row(n, 3)}, "in the box": {row(n, 3), longer}} {
				if more == 0 && name == "beside" {
					continue
				}
				name := fmt.Sprintf("%d bytes 0 more %s", more, name)
				tag, _ := Tag(key, nonce, c[0], c[1])
				if other, ok := seen[string(tag)]; ok {
					t.Fatalf("%d bytes: the tag of %s is that of %s", n, name, other)
				}
				seen[string(tag)] = name
			}
		}
	}
}

// P9.2: what is cut off, doubled or put in makes a sealed row none.
func TestOtherSizesAreRefused(t *testing.T) {
	key, nonce := row(32, 1), row(12, 2)
	for _, n := range []int{0, 1, 15, 16, 17, 48, 100} {
		ad, text := row(n, 3), row(n, 4)
		sealed := sealedOf(t, key, nonce, ad, text)
		for size := 16; size < len(sealed); size++ {
			refuses(t, "the first bytes", Open, key, nonce, ad, sealed[:size], api.ErrAuth)
			refuses(t, "the last bytes", Open, key, nonce, ad, sealed[len(sealed)-size:], api.ErrAuth)
		}
		for at := range len(sealed) + 1 {
			refuses(t, "a byte 0 put in", Open, key, nonce, ad, slices.Concat(sealed[:at], []byte{0}, sealed[at:]), api.ErrAuth)
		}
		for size := range len(ad) {
			refuses(t, "a shorter row beside", Open, key, nonce, ad[:size], sealed, api.ErrAuth)
		}
		for more := range 17 {
			refuses(t, "a longer row beside", Open, key, nonce, append(bytes.Clone(ad), make([]byte, more+1)...), sealed, api.ErrAuth)
		}
		refuses(t, "twice", Open, key, nonce, ad, slices.Concat(sealed, sealed), api.ErrAuth)
	}
}

// P9.3: what is sealed is opened, by the same key, nonce and row beside.
func TestSealedIsOpened(t *testing.T) {
	for i, key := range keys() {
		for j, nonce := range nonces() {
			for _, n := range sizes() {
				ad, text := row((n+i)%40, j), row(n, i)
				answers(t, "Open", Open, key, nonce, ad, sealedOf(t, key, nonce, ad, text), text)
			}
		}
	}
}

// P9.3: what is opened is sealed as it was, also of boxes that nobody sealed.
func TestOpenedIsSealedAsItWas(t *testing.T) {
	eachPair(func(key, nonce []byte, n, m int) {
		ad, box := row(n, 8), row(m, 9)
		tag, _ := Tag(key, nonce, ad, box)
		sealed := slices.Concat(box, tag)
		text, e := Open(key, nonce, ad, sealed)
		if e != api.OK || len(text) != m {
			t.Fatalf("Open: %d bytes, error %d", len(text), e)
		}
		answers(t, "Seal of what was opened", Seal, key, nonce, ad, text, sealed)
	})
}

// P9.3: a sealed text with another tag is none: one byte of it another one, or all of it.
func TestOtherTagsAreRefused(t *testing.T) {
	key, nonce, ad, text := row(32, 1), row(12, 2), row(21, 3), row(37, 4)
	sealed := sealedOf(t, key, nonce, ad, text)
	box, tag := sealed[:37], sealed[37:]
	with := func(name string, other []byte) {
		t.Helper()
		refuses(t, name, Open, key, nonce, ad, slices.Concat(box, other), api.ErrAuth)
	}
	for at := range 16 {
		for x := range 256 {
			other := bytes.Clone(tag)
			other[at] = byte(x)
			if byte(x) != tag[at] {
				with(fmt.Sprintf("byte %d of the tag is %d", at, x), other)
			}
		}
	}
	for first := range 128 {
		for second := range first {
			with(fmt.Sprintf("bits %d and %d of the tag", first, second), turned(turned(tag, first), second))
		}
	}
	back := bytes.Clone(tag)
	slices.Reverse(back)
	spoilt := bytes.Clone(tag)
	spoil(spoilt)
	for name, other := range map[string][]byte{
		"bytes 0": make([]byte, 16), "bytes 255": full(16), "turned round": back, "all bits turned": spoilt,
		"one of another nonce": plainTag(key, row(12, 3), ad, box), "one of another key": plainTag(row(32, 2), nonce, ad, box),
		"one of the text": plainTag(key, nonce, ad, text), "one of the other rows": plainTag(key, nonce, box, ad),
		"the second half of its key": chacha.Block(key, 0, nonce)[16:32],
	} {
		with("a tag of "+name, other)
	}
	for seed := range 2000 {
		with("a tag without order", row(16, seed+50))
	}
}

// Rule 3: nil and no bytes are one, beside and in texts.
func TestNilAndEmpty(t *testing.T) {
	key, nonce := row(32, 1), row(12, 2)
	empty := [][]byte{nil, {}, row(5, 1)[:0]}
	for _, ad := range empty {
		for _, b := range empty {
			answers(t, "Tag", Tag, key, nonce, ad, b, plainTag(key, nonce, nil, nil))
			answers(t, "Seal", Seal, key, nonce, ad, b, plainSeal(key, nonce, nil, nil))
			answers(t, "Open", Open, key, nonce, ad, plainSeal(key, nonce, b, nil), nil)
			refuses(t, "Open", Open, key, nonce, ad, b, api.ErrShort)
		}
	}
}

// P9.2: answers are new memory, and arguments stay as they were, also those that are refused.
func TestNewMemory(t *testing.T) {
	for name, call := range calls() {
		for _, keySize := range []int{0, 31, 32, 33} {
			for _, nonceSize := range []int{0, 12, 13} {
				for _, n := range []int{0, 1, 15, 16, 17, 64, 200} {
					newMemory(t, name, call, row(96, 1)[:keySize], row(96, 2)[:nonceSize], row(400, 3)[:n], row(400, 4)[:n])
				}
			}
		}
	}
}

// P9.2: so is the text of what is opened, and what is refused by its tag stays as it was.
func TestNewMemoryOfOpened(t *testing.T) {
	for _, n := range []int{0, 1, 15, 16, 17, 64, 200} {
		key, nonce, ad := row(32, 1), row(12, 2), row(400, 3)[:n]
		sealed := sealedOf(t, key, nonce, ad, row(n, 4))
		newMemory(t, "Open", Open, key, nonce, ad, append(sealed, row(50, 5)...)[:len(sealed)])
		newMemory(t, "Open of another tag", Open, key, nonce, ad, turned(sealed, 8*len(sealed)-1))
	}
}

// newMemory changes an answer, and then the arguments, and looks whether anything else changes with them.
func newMemory(t *testing.T, name string, call call, args ...[]byte) {
	t.Helper()
	before := make([][]byte, len(args))
	for i, arg := range args {
		before[i] = bytes.Clone(arg[:cap(arg)])
	}
	ask := func() []byte {
		out, _ := call(args[0], args[1], args[2], args[3])
		return out
	}
	first := ask()
	kept := bytes.Clone(first)
	second := ask()
	spoil(first)
	for i, arg := range args {
		same(t, fmt.Sprintf("%s: argument %d", name, i), arg[:cap(arg)], before[i])
	}
	same(t, name+": another answer", second, kept)
	for _, arg := range args {
		spoil(arg)
	}
	same(t, name+": an answer, when arguments change", second, kept)
}

// P9.1, P9.2: the rows that are handed in may lie over each other.
func TestSharedArguments(t *testing.T) {
	room := row(200, 6)
	before := bytes.Clone(room)
	for off := range 60 {
		key, nonce, ad, b := room[off:off+32], room[off+5:off+17], room[off/2:off/2+40], room[off/3:off/3+100]
		answers(t, "Tag", Tag, key, nonce, ad, b, plainTag(bytes.Clone(key), bytes.Clone(nonce), bytes.Clone(ad), bytes.Clone(b)))
		answers(t, "Seal", Seal, key, nonce, ad, b, plainSeal(bytes.Clone(key), bytes.Clone(nonce), bytes.Clone(ad), bytes.Clone(b)))
		answers(t, "Seal of the row beside", Seal, key, nonce, b, b, plainSeal(key, nonce, bytes.Clone(b), bytes.Clone(b)))
		refuses(t, "Open", Open, key, nonce, ad, b, api.ErrAuth)
		same(t, "what was handed in", room, before)
	}
	// A sealed row that has its own key in it, and stands beside a part of itself.
	key, nonce := row(32, 1), row(12, 2)
	sealed := sealedOf(t, key, nonce, key[:20], key)
	answers(t, "Open", Open, key, nonce, key[:20], sealed, key)
}

// Rule 4: the same calls have the same answers, whatever was asked between.
func TestAgain(t *testing.T) {
	key, nonce, ad, text := row(32, 1), row(12, 2), row(30, 3), row(150, 4)
	sealed := sealedOf(t, key, nonce, ad, text)
	for seed := range 50 {
		for _, call := range calls() {
			call(row(32, seed), row(12, seed), row(seed, 1), row(2*seed, 1))
			call(row(seed, 1), row(seed, 2), nil, nil)
			call(key, nonce, ad, row(seed, 3))
		}
		answers(t, "Seal again", Seal, key, nonce, ad, text, sealed)
		answers(t, "Tag again", Tag, key, nonce, ad, sealed[:150], sealed[150:])
		answers(t, "Open again", Open, key, nonce, ad, sealed, text)
	}
}

// FuzzAead holds all three to the promises' words, for any rows.
func FuzzAead(f *testing.F) {
	f.Add(row(32, 1), row(12, 2), row(5, 3), row(40, 4))
	f.Add(full(32), full(12), full(16), full(16))
	f.Add(row(31, 1), row(12, 2), []byte{}, row(3, 1))
	f.Add(row(32, 1), row(13, 2), []byte{}, row(3, 1))
	f.Add(row(32, 1), row(12, 2), []byte{}, []byte{})
	f.Fuzz(func(t *testing.T, key, nonce, ad, b []byte) {
		if len(key) != 32 || len(nonce) != 12 {
			for name, call := range calls() {
				refuses(t, name, call, key, nonce, ad, b, api.ErrArg)
			}
			return
		}
		sealed := plainSeal(key, nonce, ad, b)
		answers(t, "Tag", Tag, key, nonce, ad, b, plainTag(key, nonce, ad, b))
		answers(t, "Seal", Seal, key, nonce, ad, b, sealed)
		answers(t, "Open", Open, key, nonce, ad, sealed, b)
		text, e := Open(key, nonce, ad, b)
		switch {
		case len(b) < 16:
			refuses(t, "Open", Open, key, nonce, ad, b, api.ErrShort)
		case e == api.OK:
			answers(t, "Seal of what was opened", Seal, key, nonce, ad, text, b)
		default:
			refuses(t, "Open", Open, key, nonce, ad, b, api.ErrAuth)
		}
	})
}

// BenchmarkSeal tells what a datagram of the greatest size costs.
func BenchmarkSeal(b *testing.B) {
	key, nonce, text := row(32, 1), row(12, 2), row(api.MaxDatagram, 3)
	b.SetBytes(int64(len(text)))
	for range b.N {
		Seal(key, nonce, nil, text)
	}
}
