package chacha_test

import (
	"bytes"
	"encoding/hex"
	"math"
	"testing"

	"hatchway/api"
	"hatchway/chacha"
	"hatchway/samples"
)

// rising answers n bytes, each one greater than the one ahead of it.
func rising(n, from int) []byte {
	b := make([]byte, n)
	for i := range b {
		b[i] = byte(from + i)
	}
	return b
}

// risingKey is the key 00 01 .. 1f of the RFC's examples.
func risingKey() api.Key {
	return api.Key(rising(32, 0))
}

// risingNonce is a nonce without two bytes that are the same.
func risingNonce() api.ID {
	return api.ID(rising(12, 0xa0))
}

// blocks answers the bytes of as many Blocks as n bytes take, one by one.
func blocks(key api.Key, counter uint32, nonce api.ID, n int) []byte {
	var all []byte
	for len(all) < n {
		b := chacha.Block(key, counter, nonce)
		all = append(all, b[:]...)
		counter++
	}
	return all[:n]
}

func TestBlockOfTheChapter(t *testing.T) {
	b := chacha.Block(api.Key{}, 0, api.ID{})
	if string(b[:4]) != "\x76\xb8\xe0\xad" {
		t.Errorf("got % x", b[:4])
	}
}

func TestBlockOfKnownKeys(t *testing.T) {
	for _, c := range []struct {
		name    string
		key     api.Key
		counter uint32
		nonce   api.ID
		want    string
	}{
		{"RFC 8439, 2.3.2", risingKey(), 1, api.ID{3: 9, 7: 0x4a},
			"10f1e7e4d13b5915500fdd1fa32071c4c7d1f4c733c068030422aa9ac3d46c4ed2826446079faa0914c2d705d98b02a2b5129cd1de164eb9cbd083e8a2503c4e"},
		{"RFC 8439, A.1, 1", api.Key{}, 0, api.ID{},
			"76b8e0ada0f13d90405d6ae55386bd28bdd219b8a08ded1aa836efcc8b770dc7da41597c5157488d7724e03fb8d84a376a43b8f41518a11cc387b669b2ee6586"},
		{"RFC 8439, A.1, 2", api.Key{}, 1, api.ID{},
			"9f07e7be5551387a98ba977c732d080dcb0f29a048e3656912c6533e32ee7aed29b721769ce64e43d57133b074d839d531ed1f28510afb45ace10a1f4b794d6f"},
		{"RFC 8439, A.1, 3", api.Key{31: 1}, 1, api.ID{},
			"3aeb5224ecf849929b9d828db1ced4dd832025e8018b8160b82284f3c949aa5a8eca00bbb4a73bdad192b5c42f73f2fd4e273644c8b36125a64addeb006c13a0"},
		{"RFC 8439, A.1, 4", api.Key{1: 0xff}, 2, api.ID{},
			"72d54dfbf12ec44b362692df94137f328fea8da73990265ec1bbbea1ae9af0ca13b25aa26cb4a648cb9b9d1be65b2c0924a66c54d545ec1b7374f4872e99f096"},
		{"RFC 8439, A.1, 5", api.Key{}, 0, api.ID{11: 2},
			"c2c64d378cd536374ae204b9ef933fcd1a8b2288b3dfa49672ab765b54ee27c78a970e0e955c14f3a88e741b97c286f75f8fc299e8148362fa198a39531bed6d"},
		{"the counter 0", risingKey(), 0, risingNonce(),
			"f7baf7e4cc1bfeaea3e5885e99ca209f520adea739997a357f85ab6e14007197598afb967692ece398007de8563b9c10de4228eca19f9510dc4a495468779733"},
		{"the greatest counter", risingKey(), math.MaxUint32, risingNonce(),
			"9f51d9fb93f9314061222fcb53e9b9443832d43b3d116d50bf96b64c6189dd7e339188144984a56c155eae8e27a253e72e69dd097ea7d67937815a7bfabfd759"},
		{"the greatest counter, all else 0", api.Key{}, math.MaxUint32, api.ID{},
			"ace4cd09e294d1912d4ad205d06f95d9c2f2bfcf453e8753f128765b62215f4d92c74f2f626c6a640c0b1284d839ec81f1696281dafc3e684593937023b58b1d"},
	} {
		if got := chacha.Block(c.key, c.counter, c.nonce); hex.EncodeToString(got[:]) != c.want {
			t.Errorf("%s: got %x, want %s", c.name, got, c.want)
		}
	}
}

func TestEachBitOfKeyCounterAndNonceCounts(t *testing.T) {
	seen := map[[64]byte]string{chacha.Block(risingKey(), 5, risingNonce()): "no bit"}
	note := func(what string, b [64]byte) {
		if other, ok := seen[b]; ok {
			t.Errorf("a bit of the %s counts as %s", what, other)
		}
		seen[b] = "one of the " + what
	}
	for bit := range 256 {
		key := risingKey()
		key[bit/8] ^= 1 << (bit % 8)
		note("key", chacha.Block(key, 5, risingNonce()))
	}
	for bit := range 32 {
		note("counter", chacha.Block(risingKey(), 5^1<<bit, risingNonce()))
	}
	for bit := range 96 {
		nonce := risingNonce()
		nonce[bit/8] ^= 1 << (bit % 8)
		note("nonce", chacha.Block(risingKey(), 5, nonce))
	}
}

func TestStreamOfKnownTexts(t *testing.T) {
	for _, c := range []struct {
		name    string
		key     []byte
		counter uint32
		nonce   api.ID
		text    string
		want    string
	}{
		{"RFC 8439, 2.4.2", rising(32, 0), 1, api.ID{7: 0x4a},
			"Ladies and Gentlemen of the class of '99: If I could offer you only one tip for the future, sunscreen would be it.",
			"6e2e359a2568f98041ba0728dd0d6981e97e7aec1d4360c20a27afccfd9fae0bf91b65c5524733ab8f593dabcd62b3571639d624e65152ab8f530c359f0861d807ca0dbf500d6a6156a38e088a22b65e52bc514d16ccf806818ce91ab77937365af90bbf74a35be6b40b8eedf2785e42874d"},
		{"RFC 8439, A.2, 3", samples.Hex("1c9240a5eb55d38af333888604f6b5f0473917c1402b80099dca5cbc207075c0"), 42, api.ID{11: 2},
			"'Twas brillig, and the slithy toves\nDid gyre and gimble in the wabe:\nAll mimsy were the borogoves,\nAnd the mome raths outgrabe.",
			"62e6347f95ed87a45ffae7426f27a1df5fb69110044c0d73118effa95b01e5cf166d3df2d721caf9b21e5fb14c616871fd84c54f9d65b283196c7fe4f60553ebf39c6402c42234e32a356b3e764312a61a5532055716ead6962568f87d3f3f7704c6a8d1bcd1bf4d50d6154b6da731b187b58dfd728afa36757a797ac188d1"},
	} {
		got := chacha.Stream(api.Key(c.key), c.counter, c.nonce, []byte(c.text))
		if hex.EncodeToString(got) != c.want {
			t.Errorf("%s: got %x, want %s", c.name, got, c.want)
		}
	}
}

func TestStreamOfNothingIsNothing(t *testing.T) {
	for _, counter := range []uint32{0, math.MaxUint32} {
		if got := chacha.Stream(risingKey(), counter, risingNonce(), nil); len(got) != 0 {
			t.Errorf("of nil: got % x", got)
		}
		if got := chacha.Stream(risingKey(), counter, risingNonce(), []byte{}); len(got) != 0 {
			t.Errorf("of no bytes: got % x", got)
		}
		if got := chacha.Stream(risingKey(), counter, risingNonce(), make([]byte, 0, 64)); len(got) != 0 {
			t.Errorf("of no bytes with room: got % x", got)
		}
	}
}

// The counters next to the greatest one go round behind it, within a stream of more than one block.
func TestStreamIsAgainstTheBlocksInOrder(t *testing.T) {
	for _, counter := range []uint32{0, 1, 77, math.MaxUint32 - 2, math.MaxUint32 - 1, math.MaxUint32} {
		for _, n := range []int{0, 1, 2, 63, 64, 65, 127, 128, 129, 192, 300, 1500} {
			text := rising(n, 3)
			want := blocks(risingKey(), counter, risingNonce(), n)
			for i := range want {
				want[i] ^= text[i]
			}
			got := chacha.Stream(risingKey(), counter, risingNonce(), text)
			if !bytes.Equal(got, want) {
				t.Errorf("%d bytes from counter %d: got % x, want % x", n, counter, got, want)
			}
		}
	}
}

func TestTheCounterGoesRoundToZero(t *testing.T) {
	got := chacha.Stream(risingKey(), math.MaxUint32, risingNonce(), make([]byte, 130))
	last, zero, one := chacha.Block(risingKey(), math.MaxUint32, risingNonce()), chacha.Block(risingKey(), 0, risingNonce()), chacha.Block(risingKey(), 1, risingNonce())
	if string(got) != string(last[:])+string(zero[:])+string(one[:2]) {
		t.Errorf("got % x", got)
	}
}

func TestStreamTwiceIsNothing(t *testing.T) {
	for _, counter := range []uint32{0, 9, math.MaxUint32} {
		for _, n := range []int{0, 1, 63, 64, 65, 200} {
			text := rising(n, 250)
			once := chacha.Stream(risingKey(), counter, risingNonce(), text)
			if n > 0 && bytes.Equal(once, text) {
				t.Errorf("%d bytes from counter %d: once is nothing too", n, counter)
			}
			if twice := chacha.Stream(risingKey(), counter, risingNonce(), once); !bytes.Equal(twice, text) {
				t.Errorf("%d bytes from counter %d: got % x", n, counter, twice)
			}
		}
	}
}

func TestStreamAnswersNewMemory(t *testing.T) {
	for _, n := range []int{1, 64, 65, 150} {
		whole := rising(200, 0)
		got := chacha.Stream(risingKey(), 1, risingNonce(), whole[:n])
		if !bytes.Equal(whole, rising(200, 0)) {
			t.Errorf("%d bytes: what was handed in became % x", n, whole)
		}
		before := bytes.Clone(got)
		clear(whole)
		if !bytes.Equal(got, before) {
			t.Errorf("%d bytes: the answer hangs on what was handed in", n)
		}
		for i := range got {
			got[i] = 0xff
		}
		if !bytes.Equal(whole, make([]byte, 200)) {
			t.Errorf("%d bytes: what was handed in hangs on the answer", n)
		}
		again := chacha.Stream(risingKey(), 1, risingNonce(), rising(n, 0))
		if !bytes.Equal(again, before) {
			t.Errorf("%d bytes: an answer hangs on an earlier one", n)
		}
	}
}

func TestKeyAndNonceStayAsTheyWere(t *testing.T) {
	key, nonce := risingKey(), risingNonce()
	chacha.Block(key, 1, nonce)
	chacha.Stream(key, 1, nonce, make([]byte, 100))
	if key != risingKey() || nonce != risingNonce() {
		t.Errorf("they became % x and % x", key, nonce)
	}
}

func TestTheSameCallsHaveTheSameAnswers(t *testing.T) {
	text := rising(150, 0)
	block := chacha.Block(risingKey(), 8, risingNonce())
	stream := chacha.Stream(risingKey(), 8, risingNonce(), text)
	for counter := range uint32(4) {
		// Calls between them must not count.
		chacha.Block(api.Key{1}, counter, api.ID{2})
		chacha.Stream(api.Key{3}, counter, api.ID{4}, text)
		if chacha.Block(risingKey(), 8, risingNonce()) != block {
			t.Error("Block answers otherwise")
		}
		if !bytes.Equal(chacha.Stream(risingKey(), 8, risingNonce(), text), stream) {
			t.Error("Stream answers otherwise")
		}
	}
}
