package aead_test

import (
	"bytes"
	"crypto/sha256"
	"encoding/hex"
	"fmt"
	"slices"
	"strings"
	"testing"

	"hatchway/aead"
	"hatchway/api"
	"hatchway/chacha"
	"hatchway/poly"
	"hatchway/samples"
)

const (
	sunscreen = "Ladies and Gentlemen of the class of '99: If I could offer you only one tip for the future, sunscreen would be it."
	drafts    = "Internet-Drafts are draft documents valid for a maximum of six months and may be updated, replaced, or obsoleted by other documents at any time. It is inappropriate to use Internet-Drafts as reference material or to cite them other than as /“work in progress./”"
)

// known is a sealed text that others know.
type known struct {
	name, key, nonce, beside, text, want string
}

// ofRFC answers the sealed texts of RFC 8439.
func ofRFC() []known {
	return []known{
		{"2.8.2", "808182838485868788898a8b8c8d8e8f909192939495969798999a9b9c9d9e9f", "070000004041424344454647", "50515253c0c1c2c3c4c5c6c7", sunscreen,
			"d31a8d34648e60db7b86afbc53ef7ec2a4aded51296e08fea9e2b5a736ee62d63dbea45e8ca9671282fafb69da92728b1a71de0a9e060b2905d6a5b67ecd3b3692ddbd7f2d778b8c9803aee328091b58fab324e4fad675945585808b4831d7bc3ff4def08e4b7a9de576d26586cec64b6116" +
				"1ae10b594f09e26a7e902ecbd0600691"},
		{"A.5", "1c9240a5eb55d38af333888604f6b5f0473917c1402b80099dca5cbc207075c0", "000000000102030405060708", "f33388860000000000004e91", drafts,
			"64a0861575861af460f062c79be643bd5e805cfd345cf389f108670ac76c8cb24c6cfc18755d43eea09ee94e382d26b0bdb7b73c321b0100d4f03b7f355894cf332f830e710b97ce98c8a84abd0b948114ad176e008d33bd60f982b1ff37c8559797a06ef4f0ef61c186324e2b3506383606907b6a7c02b0f9f6157b53c867e4b9166c767b804d46a59b5216cde7a4e99040c5a40433225ee282a1b0a06c523eaf4534d7f83fa1155b0047718cbc546a0d072b04b3564eea1b422273f548271a0bb2316053fa76991955ebd63159434ecebb4e466dae5a1073a6727627097a1049e617d91d361094fa68f0ff77987130305beaba2eda04df997b714d6c6f2c29a6ad5cb4022b02709b" +
				"eead9d67890cbb22392336fea1851f38"},
	}
}

// lengths answers those next to multiples of sixteen, and of a block.
func lengths() []int {
	return []int{0, 1, 2, 14, 15, 16, 17, 18, 31, 32, 33, 47, 48, 49, 63, 64, 65, 127, 128, 129, 1000, 1500}
}

// part answers b and as many 0s as are short of a multiple of sixteen.
func part(b []byte) []byte {
	return append(bytes.Clone(b), make([]byte, (16-len(b)%16)%16)...)
}

// eight answers a length as bytes, the lowest first.
func eight(n int) []byte {
	return []byte{byte(n), byte(n >> 8), byte(n >> 16), byte(n >> 24), 0, 0, 0, 0}
}

// said answers what the chapter's words make of b.
func said(key api.Key, nonce api.ID, beside, b []byte) []byte {
	covered := chacha.Stream(key, 1, nonce, b)
	block := chacha.Block(key, 0, nonce)
	tag := poly.Sum(api.Key(block[:32]), slices.Concat(part(beside), part(covered), eight(len(beside)), eight(len(b))))
	return append(covered, tag[:]...)
}

// opens fails, unless b is opened to the text.
func opens(t *testing.T, what string, key api.Key, nonce api.ID, beside, b, text []byte) {
	t.Helper()
	if got, e := aead.Open(key, nonce, beside, b); !bytes.Equal(got, text) || e != api.OK {
		t.Errorf("%s: got %x, %v, want %x", what, got, e, text)
	}
}

// refuses fails, unless b is not opened.
func refuses(t *testing.T, what string, key api.Key, nonce api.ID, beside, b []byte) {
	t.Helper()
	if got, e := aead.Open(key, nonce, beside, b); len(got) != 0 || e != api.ErrSeal {
		t.Errorf("%s: got %x, %v", what, got, e)
	}
}

func TestKnownTexts(t *testing.T) {
	for _, c := range ofRFC() {
		key, nonce, beside := api.Key(samples.Hex(c.key)), api.ID(samples.Hex(c.nonce)), samples.Hex(c.beside)
		b := aead.Seal(key, nonce, beside, []byte(c.text))
		if hex.EncodeToString(b) != c.want {
			t.Errorf("RFC 8439, %s: got %x, want %s", c.name, b, c.want)
		}
		opens(t, "RFC 8439, "+c.name, key, nonce, beside, samples.Hex(c.want), []byte(c.text))
		// What the other tests are held against has to be right too.
		if got := said(key, nonce, beside, []byte(c.text)); hex.EncodeToString(got) != c.want {
			t.Errorf("RFC 8439, %s: the test's own way tells %x", c.name, got)
		}
	}
}

// What another program makes of the same bytes (OpenSSL's chacha20-poly1305).
func TestTextsThatAnotherProgramSealed(t *testing.T) {
	for _, c := range []struct {
		beside, text int
		want         string
	}{
		{0, 0, "61c8c70e95943921124becbd42040676"},
		{0, 1, "7dfff397299aa2f3d404f34b4f4be5e12e"},
		{1, 0, "10d9da3e0940a26a8a7403d0500c96d6"},
		{15, 16, "7d17825f69266b74bef4677fdd81533a7fb2c50848f0bb126d138b671445da8c"},
		{16, 15, "7d17825f69266b74bef4677fdd815331b2effce5e4f3a3082e68f59b54246a"},
		{17, 33, "7d17825f69266b74bef4677fdd81533ac237e17f7234b57d54ddff705c9968552e330fea71a62cfab85f94b788834e3827"},
		{64, 65, "7d17825f69266b74bef4677fdd81533ac237e17f7234b57d54ddff705c9968552eae37e2291658a65a09b9e4642942c2e8f7f975881bd69c4ded79bbd56fb7c3bc5d592b13406d1f0c839ea958f9f40f85"},
	} {
		beside, text := samples.Mixed(c.beside, 3), samples.Mixed(c.text, 4)
		if got := aead.Seal(samples.Key(1), samples.Nonce(2), beside, text); hex.EncodeToString(got) != c.want {
			t.Errorf("%d beside %d: got %x, want %s", c.beside, c.text, got, c.want)
		}
		opens(t, "another program's", samples.Key(1), samples.Nonce(2), beside, samples.Hex(c.want), text)
	}
}

// The same program's for each length of both, as one sum over all of them.
func TestManyTextsThatAnotherProgramSealed(t *testing.T) {
	all := sha256.New()
	for beside := range uint32(50) {
		for text := range uint32(150) {
			all.Write(aead.Seal(samples.Key(beside), samples.Nonce(text), samples.Mixed(int(beside), text), samples.Mixed(int(text), beside)))
		}
	}
	if got := hex.EncodeToString(all.Sum(nil)); got != "4ca3f83e2d367e5db8c3e7d4ef8e6f32b23bf859b706d4e70b9a013f39edf41e" {
		t.Errorf("got %s", got)
	}
}

// The chapter's example.
func TestOfNothingItIsSixteenBytes(t *testing.T) {
	nothings := [][]byte{nil, {}, make([]byte, 0, 40), samples.Mixed(40, 1)[:0], samples.Mixed(40, 1)[40:]}
	for _, beside := range nothings {
		for _, b := range nothings {
			got := aead.Seal(api.Key{}, api.ID{}, beside, b)
			if hex.EncodeToString(got) != "4eb972c9a8fb3a1b382bb4d36f5ffad1" {
				t.Errorf("got %x", got)
			}
			for _, other := range nothings {
				opens(t, "of nothing", api.Key{}, api.ID{}, other, got, nil)
			}
		}
	}
}

func TestSealOfAllLengths(t *testing.T) {
	for i, beside := range lengths() {
		for j, text := range lengths() {
			key, nonce := samples.Key(uint32(i)), samples.Nonce(uint32(j))
			a, b := samples.Mixed(beside, uint32(j)), samples.Mixed(text, uint32(i))
			got := aead.Seal(key, nonce, a, b)
			if len(got) != text+16 {
				t.Errorf("%d beside %d: it has %d bytes", beside, text, len(got))
			}
			if want := said(key, nonce, a, b); !bytes.Equal(got, want) {
				t.Errorf("%d beside %d: got %x, want %x", beside, text, got, want)
			}
			opens(t, fmt.Sprint(beside, " beside ", text), key, nonce, a, got, b)
		}
	}
}

// The second and the third byte of a length count too.
func TestLongTexts(t *testing.T) {
	for _, n := range []int{255, 256, 257, 1<<16 - 1, 1 << 16, 1<<16 + 1, 1<<18 + 5} {
		for _, c := range []struct{ beside, text int }{{0, n}, {n, 0}, {n, 3}, {3, n}, {n, n}} {
			a, b := samples.Mixed(c.beside, 5), samples.Mixed(c.text, 6)
			got := aead.Seal(samples.Key(5), samples.Nonce(6), a, b)
			if want := said(samples.Key(5), samples.Nonce(6), a, b); !bytes.Equal(got, want) {
				t.Errorf("%d beside %d: it is another one", c.beside, c.text)
			}
			opens(t, "a long one", samples.Key(5), samples.Nonce(6), a, got, b)
		}
	}
}

// All keys and nonces serve, those without bits and with all of them too.
func TestKeysAndNoncesOfAllSorts(t *testing.T) {
	full := strings.Repeat("\xff", 32)
	for _, key := range []api.Key{{}, {1}, {31: 0x80}, api.Key([]byte(full)), samples.Key(1)} {
		for _, nonce := range []api.ID{{}, {1}, {11: 0x80}, api.ID([]byte(full[:12])), samples.Nonce(1)} {
			for _, text := range []string{"", "a", full, string(make([]byte, 32))} {
				got := aead.Seal(key, nonce, []byte("beside"), []byte(text))
				if want := said(key, nonce, []byte("beside"), []byte(text)); !bytes.Equal(got, want) {
					t.Errorf("key %x, nonce %x: got %x, want %x", key, nonce, got, want)
				}
				opens(t, "a key", key, nonce, []byte("beside"), got, []byte(text))
			}
		}
	}
}

// The text is covered by the blocks from 1 on; block 0 has the tag's key alone.
func TestTheTextIsCoveredFromBlockOneOn(t *testing.T) {
	got := aead.Seal(samples.Key(2), samples.Nonce(2), nil, make([]byte, 128))
	one, two := chacha.Block(samples.Key(2), 1, samples.Nonce(2)), chacha.Block(samples.Key(2), 2, samples.Nonce(2))
	if !bytes.Equal(got[:64], one[:]) || !bytes.Equal(got[64:128], two[:]) {
		t.Errorf("got %x", got)
	}
}

// What stands beside is told by the tag alone.
func TestWhatStandsBesideIsNotSealedIn(t *testing.T) {
	text := samples.Mixed(40, 3)
	one := aead.Seal(samples.Key(3), samples.Nonce(3), []byte("one"), text)
	two := aead.Seal(samples.Key(3), samples.Nonce(3), []byte("two"), text)
	if !bytes.Equal(one[:40], two[:40]) {
		t.Error("the text hangs on it")
	}
	if bytes.Equal(one[40:], two[40:]) {
		t.Error("the tag does not hang on it")
	}
}

// The 0s between the parts must not make the same of two that differ.
func TestZerosAtTheEndsCount(t *testing.T) {
	seen := map[string]string{}
	for beside := range 34 {
		for text := range 34 {
			name := fmt.Sprint(beside, " beside ", text)
			b := aead.Seal(samples.Key(4), samples.Nonce(4), make([]byte, beside), make([]byte, text))
			tag := string(b[text:])
			if other, ok := seen[tag]; ok {
				t.Errorf("%s has the tag of %s", name, other)
			}
			seen[tag] = name
		}
	}
}

// Sealed bytes and what stands beside them do not change places.
func TestBesideIsNotSealed(t *testing.T) {
	a, b := samples.Mixed(16, 5), samples.Mixed(32, 6)
	got := aead.Seal(samples.Key(5), samples.Nonce(5), a, b)
	tag := got[32:]
	refuses(t, "the first part moved", samples.Key(5), samples.Nonce(5), slices.Concat(a, got[:16]), slices.Concat(got[16:32], tag))
	refuses(t, "the part beside moved", samples.Key(5), samples.Nonce(5), nil, slices.Concat(a, got))
	refuses(t, "both changed", samples.Key(5), samples.Nonce(5), got[:32], slices.Concat(a, tag))
}

func TestFewerThanSixteenBytes(t *testing.T) {
	for _, text := range []int{0, 1, 40} {
		b := aead.Seal(samples.Key(6), samples.Nonce(6), []byte("beside"), samples.Mixed(text, 6))
		for n := range 16 {
			refuses(t, "its first bytes", samples.Key(6), samples.Nonce(6), []byte("beside"), b[:n])
			refuses(t, "its last bytes", samples.Key(6), samples.Nonce(6), []byte("beside"), b[len(b)-n:])
			refuses(t, "no bits", samples.Key(6), samples.Nonce(6), nil, make([]byte, n))
		}
		refuses(t, "none", samples.Key(6), samples.Nonce(6), []byte("beside"), nil)
		refuses(t, "none, none beside", samples.Key(6), samples.Nonce(6), nil, nil)
	}
	// The bytes behind the end, within the capacity, make no whole tag of a short one.
	whole := aead.Seal(samples.Key(6), samples.Nonce(6), nil, nil)
	refuses(t, "a whole one's first fifteen", samples.Key(6), samples.Nonce(6), nil, whole[:15])
}

func TestAnyOtherBitIsRefused(t *testing.T) {
	for _, c := range []struct{ beside, text int }{{0, 0}, {0, 1}, {1, 0}, {15, 17}, {16, 16}, {17, 15}, {20, 65}} {
		key, nonce, beside := samples.Key(7), samples.Nonce(7), samples.Mixed(c.beside, 7)
		b := aead.Seal(key, nonce, beside, samples.Mixed(c.text, 8))
		for bit := range 8 * len(b) {
			refuses(t, fmt.Sprint("sealed bit ", bit), key, nonce, beside, samples.Flipped(b, bit))
		}
		for bit := range 8 * len(beside) {
			refuses(t, fmt.Sprint("bit beside ", bit), key, nonce, samples.Flipped(beside, bit), b)
		}
		for bit := range 8 * len(key) {
			refuses(t, fmt.Sprint("bit of the key ", bit), api.Key(samples.Flipped(key[:], bit)), nonce, beside, b)
		}
		for bit := range 8 * len(nonce) {
			refuses(t, fmt.Sprint("bit of the nonce ", bit), key, api.ID(samples.Flipped(nonce[:], bit)), beside, b)
		}
		opens(t, "no other bit", key, nonce, beside, b, samples.Mixed(c.text, 8))
	}
}

func TestAByteTooManyOrTooFewIsRefused(t *testing.T) {
	for _, beside := range []int{0, 1, 15, 16, 17, 32} {
		for _, text := range []int{0, 1, 15, 16, 17, 32, 64, 65} {
			key, nonce, a := samples.Key(9), samples.Nonce(9), samples.Mixed(beside, 9)
			b := aead.Seal(key, nonce, a, samples.Mixed(text, 10))
			refuses(t, "the last one is gone", key, nonce, a, b[:len(b)-1])
			refuses(t, "the first one is gone", key, nonce, a, b[1:])
			for _, more := range []byte{0, 1, 0xff, b[0], b[len(b)-1]} {
				refuses(t, "one behind", key, nonce, a, append(bytes.Clone(b), more))
				refuses(t, "one ahead", key, nonce, a, append([]byte{more}, b...))
				refuses(t, "one ahead of the tag", key, nonce, a, slices.Insert(bytes.Clone(b), text, more))
				refuses(t, "one more beside", key, nonce, append(bytes.Clone(a), more), b)
				refuses(t, "one more beside, ahead", key, nonce, append([]byte{more}, a...), b)
			}
			if text > 0 {
				refuses(t, "the last one ahead of the tag is gone", key, nonce, a, slices.Delete(bytes.Clone(b), text-1, text))
			}
			if beside > 0 {
				refuses(t, "the last one beside is gone", key, nonce, a[:beside-1], b)
				refuses(t, "the first one beside is gone", key, nonce, a[1:], b)
			}
		}
	}
}

func TestWhatNobodySealedIsRefused(t *testing.T) {
	for n := range 80 {
		for seed := range uint32(5) {
			refuses(t, "mixed bytes", samples.Key(seed), samples.Nonce(seed), samples.Mixed(n/2, seed), samples.Mixed(n, seed+20))
		}
		refuses(t, "no bits", samples.Key(1), samples.Nonce(1), nil, make([]byte, n))
		refuses(t, "no bits, no key", api.Key{}, api.ID{}, nil, make([]byte, n))
	}
	// A text that was covered but not tagged, and a tag of another text.
	text := samples.Mixed(48, 11)
	refuses(t, "covered", samples.Key(11), samples.Nonce(11), nil, chacha.Stream(samples.Key(11), 1, samples.Nonce(11), text))
	one, two := aead.Seal(samples.Key(11), samples.Nonce(11), nil, text), aead.Seal(samples.Key(11), samples.Nonce(11), nil, samples.Mixed(48, 12))
	refuses(t, "another one's tag", samples.Key(11), samples.Nonce(11), nil, slices.Concat(one[:48], two[48:]))
}

// The tag is that of the covered bytes, not of the text.
func TestATagOfTheTextIsRefused(t *testing.T) {
	key, nonce, text := samples.Key(12), samples.Nonce(12), samples.Mixed(20, 12)
	block := chacha.Block(key, 0, nonce)
	tag := poly.Sum(api.Key(block[:32]), slices.Concat(part(text), eight(0), eight(20)))
	refuses(t, "a tag of the text", key, nonce, nil, append(chacha.Stream(key, 1, nonce, text), tag[:]...))
}

// An answer beside an error has none of the text (R5).
func TestBesideAnErrorThereIsNothing(t *testing.T) {
	b := aead.Seal(samples.Key(13), samples.Nonce(13), nil, samples.Mixed(30, 13))
	got, e := aead.Open(samples.Key(13), samples.Nonce(13), nil, samples.Flipped(b, 0))
	if got != nil || e != api.ErrSeal {
		t.Errorf("got %x, %v", got, e)
	}
	if got, e := aead.Open(samples.Key(13), samples.Nonce(13), nil, b[:10]); got != nil || e != api.ErrSeal {
		t.Errorf("a short one: got %x, %v", got, e)
	}
}

func TestWhatIsHandedInStaysAsItWas(t *testing.T) {
	key, nonce := samples.Key(14), samples.Nonce(14)
	for n := range 70 {
		// Room behind them: an append without a copy would write there.
		a, b := samples.Mixed(200, 14), samples.Mixed(200, 15)
		sealed := aead.Seal(key, nonce, a[:n], b[:n])
		if !bytes.Equal(a, samples.Mixed(200, 14)) || !bytes.Equal(b, samples.Mixed(200, 15)) {
			t.Errorf("Seal of %d bytes changed something", n)
		}
		whole := append(bytes.Clone(sealed), samples.Mixed(100, 16)...)
		before := bytes.Clone(whole)
		opens(t, "with room", key, nonce, a[:n], whole[:n+16], b[:n])
		whole[0] ^= 1
		before[0] ^= 1
		refuses(t, "with room", key, nonce, a[:n], whole[:n+16])
		if !bytes.Equal(a, samples.Mixed(200, 14)) || !bytes.Equal(whole, before) {
			t.Errorf("Open of %d bytes changed something", n)
		}
	}
	if key != samples.Key(14) || nonce != samples.Nonce(14) {
		t.Error("the key, or the nonce, is another one")
	}
}

func TestWhatLiesBehindTheBytesDoesNotCount(t *testing.T) {
	for n := range 40 {
		a, b := samples.Mixed(100, 17), samples.Mixed(100, 18)
		one := aead.Seal(samples.Key(17), samples.Nonce(17), a[:n], b[:n])
		clear(a[n:])
		clear(b[n:])
		if two := aead.Seal(samples.Key(17), samples.Nonce(17), a[:n], b[:n]); !bytes.Equal(one, two) {
			t.Errorf("behind %d bytes something counts", n)
		}
	}
}

// whole answers b as far as its capacity goes.
func whole(b []byte) []byte {
	return b[:cap(b)]
}

// invert turns all bits round.
func invert(b []byte) {
	for i := range b {
		b[i] ^= 0xff
	}
}

func TestAnAnswerIsNewMemory(t *testing.T) {
	key, nonce := samples.Key(19), samples.Nonce(19)
	for _, n := range []int{0, 1, 16, 17, 64, 65} {
		a, b := samples.Mixed(n, 19), samples.Mixed(n, 20)
		want := said(key, nonce, a, b)

		sealed := aead.Seal(key, nonce, a, b)
		invert(a)
		invert(b)
		if !bytes.Equal(sealed, want) {
			t.Errorf("%d bytes: what is sealed hangs on what was handed in", n)
		}
		invert(a)
		invert(b)
		again := aead.Seal(key, nonce, a, b)
		invert(whole(again))
		if !bytes.Equal(sealed, want) || !bytes.Equal(a, samples.Mixed(n, 19)) || !bytes.Equal(b, samples.Mixed(n, 20)) {
			t.Errorf("%d bytes: an answer has somebody else's memory", n)
		}

		text, _ := aead.Open(key, nonce, a, sealed)
		other, _ := aead.Open(key, nonce, a, sealed)
		invert(whole(other))
		if !bytes.Equal(text, b) || !bytes.Equal(sealed, want) || !bytes.Equal(a, samples.Mixed(n, 19)) {
			t.Errorf("%d bytes: what is opened has somebody else's memory", n)
		}
		invert(sealed)
		invert(a)
		if !bytes.Equal(text, b) {
			t.Errorf("%d bytes: what is opened hangs on what was handed in", n)
		}
	}
}

// Both may be the same bytes.
func TestTheSameBytesBesideThemselves(t *testing.T) {
	b := samples.Mixed(50, 21)
	got := aead.Seal(samples.Key(21), samples.Nonce(21), b, b)
	if want := said(samples.Key(21), samples.Nonce(21), samples.Mixed(50, 21), samples.Mixed(50, 21)); !bytes.Equal(got, want) {
		t.Errorf("got %x, want %x", got, want)
	}
	twice := aead.Seal(samples.Key(21), samples.Nonce(21), got, got)
	opens(t, "sealed twice", samples.Key(21), samples.Nonce(21), got, twice, got)
	opens(t, "and opened", samples.Key(21), samples.Nonce(21), b, got, samples.Mixed(50, 21))
}

func TestTheSameCallsHaveTheSameAnswers(t *testing.T) {
	key, nonce, a, b := samples.Key(22), samples.Nonce(22), samples.Mixed(21, 22), samples.Mixed(70, 22)
	want := aead.Seal(key, nonce, a, b)
	for seed := range uint32(20) {
		// Calls between them must not count, refused ones neither.
		other := aead.Seal(samples.Key(seed), samples.Nonce(seed), samples.Mixed(int(seed), seed), samples.Mixed(int(seed)*3, seed))
		aead.Open(key, nonce, nil, other)
		if got := aead.Seal(key, nonce, a, b); !bytes.Equal(got, want) {
			t.Errorf("got %x, want %x", got, want)
		}
		opens(t, "again", key, nonce, a, want, b)
		refuses(t, "again", key, nonce, b, want)
	}
}
