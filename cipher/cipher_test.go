package cipher_test

import (
	"bytes"
	"crypto/sha256"
	"encoding/hex"
	"fmt"
	"slices"
	"testing"

	"hatchway/aead"
	"hatchway/api"
	"hatchway/cipher"
	"hatchway/samples"
)

// last is the number that seals nothing.
const last = 1<<64 - 1

// numbers answers those at the edges of their bytes, all of which seal.
func numbers() []uint64 {
	return []uint64{
		0, 1, 2, 127, 128, 255, 256, 257, 65535, 65536, 1 << 24, 1 << 31, 1<<32 - 1, 1 << 32, 1 << 40, 1 << 48, 1 << 56, 1 << 63,
		0x0123456789abcdef, last - 2, last - 1,
	}
}

// lengths answers those next to multiples of sixteen, and of a block.
func lengths() []int {
	return []int{0, 1, 15, 16, 17, 63, 64, 65, 1000}
}

// nonce answers four bytes 0, and n as eight.
func nonce(n uint64) api.ID {
	var id api.ID
	for i := range 8 {
		id[4+i] = byte(n >> (8 * i))
	}
	return id
}

// keyed answers a cipher with the seed's key, that goes on with n.
func keyed(seed uint32, n uint64) cipher.Cipher {
	return cipher.Cipher{Key: samples.Key(seed), Has: true, N: n}
}

// at answers the cipher, but with another number.
func at(c cipher.Cipher, n uint64) cipher.Cipher {
	c.N = n
	return c
}

// roomy answers n bytes with others behind them, that an append would write over.
func roomy(n int, seed uint32) []byte {
	return samples.Mixed(n+40, seed)[:n]
}

// whole answers all the bytes that b has room for.
func whole(b []byte) []byte {
	return b[:cap(b)]
}

// invert turns all bits round.
func invert(b []byte) {
	for i := range b {
		b[i] ^= 0xff
	}
}

// answers fails, unless the answer is the one that is wanted, and OK.
func answers(t *testing.T, what string, got []byte, e api.Errno, want []byte) {
	t.Helper()
	if !bytes.Equal(got, want) || e != api.OK {
		t.Errorf("%s: got %x, %d, want %x", what, got, e, want)
	}
}

// refuses fails, unless there is nothing but the error.
func refuses(t *testing.T, what string, got []byte, e, want api.Errno) {
	t.Helper()
	if len(got) != 0 || e != want {
		t.Errorf("%s: got %x, %d, want error %d", what, got, e, want)
	}
}

// areSame fails, unless both are the same.
func areSame[T comparable](t *testing.T, what string, got, want T) {
	t.Helper()
	if got != want {
		t.Errorf("%s: got %v, want %v", what, got, want)
	}
}

func TestACipherWithoutAKeySealsAbcAsAbc(t *testing.T) {
	var c cipher.Cipher
	got, e := c.Seal(nil, []byte("abc"))
	answers(t, "Seal", got, e, []byte("abc"))
	got, e = c.Open(nil, []byte("abc"))
	answers(t, "Open", got, e, []byte("abc"))
	areSame(t, "the cipher", c, cipher.Cipher{})
}

// The key that stands there does not count without Has, and no number is the last one.
func TestWithoutAKeyItIsACopy(t *testing.T) {
	for _, n := range append(numbers(), last) {
		for _, key := range []api.Key{{}, samples.Key(1)} {
			for _, size := range lengths() {
				before := cipher.Cipher{Key: key, N: n}
				c, b, beside := before, samples.Mixed(size, 2), samples.Mixed(size/2, 3)
				sealed, e := c.Seal(beside, b)
				answers(t, fmt.Sprint("Seal of ", size, " at ", n), sealed, e, b)
				opened, e := c.Open(beside, b)
				answers(t, fmt.Sprint("Open of ", size, " at ", n), opened, e, b)
				areSame(t, fmt.Sprint("the cipher at ", n), c, before)
			}
		}
	}
}

func TestWithoutAKeyTheCopyIsTheCallers(t *testing.T) {
	for _, size := range lengths() {
		var c cipher.Cipher
		b, text := roomy(size, 2), samples.Mixed(size, 2)
		sealed, e := c.Seal(nil, b)
		opened, _ := c.Open(nil, b)
		invert(whole(sealed))
		answers(t, "opened", opened, e, text)
		if !bytes.Equal(whole(b), samples.Mixed(size+40, 2)) {
			t.Errorf("%d bytes: what was sealed is what was handed in", size)
		}
		invert(whole(opened))
		if !bytes.Equal(whole(b), samples.Mixed(size+40, 2)) {
			t.Errorf("%d bytes: what was opened is what was handed in", size)
		}
		invert(whole(b))
		invert(whole(opened))
		answers(t, "opened", opened, e, text)
	}
}

func TestSealAndOpenAreThoseOfAead(t *testing.T) {
	for i, n := range numbers() {
		for _, size := range lengths() {
			before := keyed(uint32(i), n)
			b, beside := samples.Mixed(size, 4), samples.Mixed(size/2, 5)
			want := aead.Seal(before.Key, nonce(n), beside, b)
			c := before
			got, e := c.Seal(beside, b)
			answers(t, fmt.Sprint("Seal of ", size, " at ", n), got, e, want)
			areSame(t, fmt.Sprint("who sealed at ", n), c, at(before, n+1))

			c = before
			got, e = c.Open(beside, want)
			answers(t, fmt.Sprint("Open of ", size, " at ", n), got, e, b)
			areSame(t, fmt.Sprint("who opened at ", n), c, at(before, n+1))
		}
	}
}

// What OpenSSL seals with those nonces.
func TestSealOfKnownTexts(t *testing.T) {
	for n, want := range map[uint64]string{
		0:                  "af3d363f53489b3f70c5cb84e429f4f81a14750063",
		1:                  "a4c7f92f18786ae19bd570351b65955606b0b69691",
		255:                "47917e2e8b33d1772ed31446d9df04cd7385747bc3",
		256:                "511db5577bf5c962190a9618d2c23264db96aba382",
		258:                "2c0b12689605da8818db7e4c97f3ab012fe2f5218c",
		1<<32 - 1:          "548bdb7401b8f5bd11196ecb9863ff53820a0fda99",
		1 << 32:            "741588a0837399c7cd1e9018f559144b9b1967e49a",
		0x0102030405060708: "6bc314297e2410223a05b3ea0896853ae96f035f37",
		1 << 63:            "22be7d28d1ca41bf36938f74d44491fdeb0e313a3c",
		last - 1:           "ec341973a68e903fbf6e445af1b3eba1eac773bd2d",
	} {
		c := keyed(1, n)
		got, e := c.Seal([]byte("to whom"), []byte("hello"))
		answers(t, fmt.Sprint("sealed at ", n), got, e, samples.Hex(want))
		c = keyed(1, n)
		got, e = c.Open([]byte("to whom"), samples.Hex(want))
		answers(t, fmt.Sprint("opened at ", n), got, e, []byte("hello"))
	}
}

// The same of all numbers and lengths, as one sum over what OpenSSL seals.
func TestSealOfAllLengths(t *testing.T) {
	all := sha256.New()
	for i, n := range numbers() {
		for _, size := range lengths() {
			c := keyed(uint32(i), n)
			got, _ := c.Seal(samples.Mixed(size/2, uint32(size)), samples.Mixed(size, uint32(i)))
			all.Write(got)
		}
	}
	if got := hex.EncodeToString(all.Sum(nil)); got != "ccb4f9192959eb5d813f72570c740620e05efaab6822230e46b1077abbea68b8" {
		t.Errorf("got %s", got)
	}
}

func TestEachNumberSealsOnce(t *testing.T) {
	for _, from := range []uint64{0, 250, 65530, 1<<32 - 5, 1<<63 - 5, last - 20} {
		c, d := keyed(6, from), keyed(6, from)
		for i := range uint64(20) {
			sealed, e := c.Seal(nil, []byte("again"))
			answers(t, fmt.Sprint("sealed at ", from+i), sealed, e, aead.Seal(c.Key, nonce(from+i), nil, []byte("again")))
			opened, e := d.Open(nil, sealed)
			answers(t, fmt.Sprint("opened at ", from+i), opened, e, []byte("again"))
			areSame(t, "who sealed", c, keyed(6, from+i+1))
			areSame(t, "who opened", d, c)
		}
	}
}

// One cipher may seal and open: both count the same number.
func TestSealAndOpenCountTogether(t *testing.T) {
	c := keyed(7, 0)
	for n := uint64(0); n < 10; n += 2 {
		sealed, e := c.Seal(nil, []byte("x"))
		answers(t, "sealed", sealed, e, aead.Seal(c.Key, nonce(n), nil, []byte("x")))
		opened, e := c.Open(nil, aead.Seal(c.Key, nonce(n+1), nil, []byte("y")))
		answers(t, "opened", opened, e, []byte("y"))
	}
	areSame(t, "the cipher", c, keyed(7, 10))
}

func TestWhatIsRefusedLeavesTheNumber(t *testing.T) {
	for _, n := range []uint64{0, 258, last - 1} {
		c, beside := keyed(8, n), []byte("beside")
		sealed := aead.Seal(c.Key, nonce(n), beside, []byte("abc"))
		refuse := func(what string, beside, b []byte) {
			t.Helper()
			got, e := c.Open(beside, b)
			refuses(t, fmt.Sprint(what, " at ", n), got, e, api.ErrSeal)
			areSame(t, fmt.Sprint("the cipher behind ", what, " at ", n), c, keyed(8, n))
		}
		for bit := range 8 * len(sealed) {
			refuse("another bit", beside, samples.Flipped(sealed, bit))
		}
		for size := range sealed {
			refuse("less", beside, sealed[:size])
		}
		refuse("nothing", nil, nil)
		refuse("more", beside, append(bytes.Clone(sealed), 0))
		refuse("beside nothing", nil, sealed)
		refuse("beside another", []byte("besides"), sealed)
		refuse("the next number", beside, aead.Seal(c.Key, nonce(n+1), beside, []byte("abc")))
		refuse("the number ahead", beside, aead.Seal(c.Key, nonce(n-1), beside, []byte("abc")))
		refuse("another key", beside, aead.Seal(samples.Key(9), nonce(n), beside, []byte("abc")))

		got, e := c.Open(beside, sealed)
		answers(t, fmt.Sprint("opened at ", n), got, e, []byte("abc"))
		areSame(t, "who opened", c, keyed(8, n+1))
	}
}

func TestNoNumberIsLeft(t *testing.T) {
	c, d := keyed(10, last-1), keyed(10, last-1)
	sealed, e := c.Seal([]byte("x"), []byte("abc"))
	answers(t, "the last one", sealed, e, aead.Seal(c.Key, nonce(last-1), []byte("x"), []byte("abc")))
	opened, e := d.Open([]byte("x"), sealed)
	answers(t, "the last one", opened, e, []byte("abc"))

	for range 10 {
		for _, c := range []*cipher.Cipher{&c, &d} {
			got, e := c.Seal([]byte("x"), []byte("abc"))
			refuses(t, "Seal", got, e, api.ErrNonce)
			got, e = c.Seal(nil, nil)
			refuses(t, "Seal of nothing", got, e, api.ErrNonce)
			got, e = c.Open([]byte("x"), aead.Seal(c.Key, nonce(last), []byte("x"), []byte("abc")))
			refuses(t, "Open", got, e, api.ErrNonce)
			got, e = c.Open(nil, nil)
			refuses(t, "Open of what is no seal", got, e, api.ErrNonce)
			areSame(t, "the cipher", *c, keyed(10, last))
		}
	}
	// Another key has no more numbers, but whoever sets N has.
	c.Rekey()
	got, e := c.Seal(nil, nil)
	refuses(t, "behind Rekey", got, e, api.ErrNonce)
	c.N = 3
	got, e = c.Seal(nil, nil)
	answers(t, "at 3", got, e, aead.Seal(c.Key, nonce(3), nil, nil))
}

func TestRekeyWithoutAKeyIsNothing(t *testing.T) {
	for _, before := range []cipher.Cipher{{}, {N: 7}, {N: last}, {Key: samples.Key(11)}, {Key: samples.Key(11), N: 7}} {
		c := before
		c.Rekey()
		areSame(t, "the cipher", c, before)
	}
}

// N stays, and does not count there.
func TestRekeyIsTheKeyThatIsAskedFor(t *testing.T) {
	for _, n := range append(numbers(), last) {
		c, key := keyed(12, n), samples.Key(12)
		for range 5 {
			sealed := aead.Seal(key, api.ID{0, 0, 0, 0, 255, 255, 255, 255, 255, 255, 255, 255}, nil, make([]byte, 32))
			key = api.Key(sealed[:32])
			c.Rekey()
			areSame(t, fmt.Sprint("the cipher at ", n), c, cipher.Cipher{Key: key, Has: true, N: n})
		}
	}
}

// The keys are those that OpenSSL tells.
func TestRekeyOfKnownKeys(t *testing.T) {
	for _, known := range []struct {
		key  api.Key
		want [4]string
	}{
		{api.Key{}, [4]string{
			"25ce5d37df19f3783185f2ffd5ab17fa3397c212f02d62fb1733e0b875b74c58", "d1e632dbd6a7b804e9081d223e165e115256a9d13b11d90e7b707790362ff2e0",
			"86e2a3040455f22fda2038c42f78c581b9993efc92d93c1366e1acf0e282f633", "21435433eabc2e93facf2573dac8b7591766e52ea0a107df0d93acb930b3602c"}},
		{samples.Key(1), [4]string{
			"d2a57e72efc706bf6472b64a64b56233d02c506a8e959f6f9a59bad1222e5194", "8fcafb839673f87d7d49e7a4da0dad89a073f7cdd5f26b98b0f7dfb45b3782f3",
			"2bee1308c590d392240d85a3176b43dad7e6c2c6ed0ffe99b305e0705f2b79c1", "69a786f0b31cc0f5170cd6079e6230d662a890decd982f901eb16fcaa6e45da1"}},
	} {
		c, times := cipher.Cipher{Key: known.key, Has: true}, 0
		for i, more := range []int{1, 1, 1, 997} {
			for range more {
				c.Rekey()
				times++
			}
			if got := hex.EncodeToString(c.Key[:]); got != known.want[i] {
				t.Errorf("%d times: got %s, want %s", times, got, known.want[i])
			}
		}
	}
}

func TestBothRekeyLikewise(t *testing.T) {
	c, d := keyed(13, 5), keyed(13, 5)
	for i := range 10 {
		sealed, e := c.Seal(nil, []byte{byte(i)})
		answers(t, "sealed", sealed, e, aead.Seal(c.Key, nonce(uint64(5+i)), nil, []byte{byte(i)}))
		if i%3 == 2 {
			early := d
			early.Rekey()
			got, e := early.Open(nil, sealed)
			refuses(t, "rekeyed too early", got, e, api.ErrSeal)
		}
		opened, e := d.Open(nil, sealed)
		answers(t, "opened", opened, e, []byte{byte(i)})
		if i%3 == 2 {
			c.Rekey()
			d.Rekey()
		}
	}
	areSame(t, "both", c, d)
}

func TestACipherKeepsNothingThatItIsHanded(t *testing.T) {
	for _, size := range lengths() {
		b, beside := roomy(size, 14), roomy(size/2, 15)
		c := keyed(14, 9)
		want := aead.Seal(c.Key, nonce(9), beside, b)
		sealed, _ := c.Seal(beside, b)
		if !bytes.Equal(whole(b), samples.Mixed(size+40, 14)) || !bytes.Equal(whole(beside), samples.Mixed(size/2+40, 15)) {
			t.Errorf("%d bytes: Seal wrote over what it was handed", size)
		}
		kept := slices.Concat(sealed, make([]byte, 40))
		handed := bytes.Clone(kept)[:len(sealed)]
		d := keyed(14, 9)
		text, _ := d.Open(beside, handed)
		if !bytes.Equal(whole(beside), samples.Mixed(size/2+40, 15)) || !bytes.Equal(whole(handed)[:len(kept)], kept) {
			t.Errorf("%d bytes: Open wrote over what it was handed", size)
		}

		invert(whole(b))
		invert(whole(beside))
		invert(whole(handed))
		answers(t, "sealed", sealed, api.OK, want)
		answers(t, "opened", text, api.OK, samples.Mixed(size, 14))
		areSame(t, "who sealed", c, keyed(14, 10))
		invert(whole(sealed))
		answers(t, "opened", text, api.OK, samples.Mixed(size, 14))
		invert(whole(text))
		areSame(t, "who sealed", c, keyed(14, 10))
		areSame(t, "who opened", d, keyed(14, 10))
	}
}

// What it is handed may be its own key.
func TestACipherIsHandedItsOwnKey(t *testing.T) {
	c, key := keyed(16, 0), samples.Key(16)
	got, e := c.Seal(c.Key[:], c.Key[:])
	answers(t, "Seal", got, e, aead.Seal(key, nonce(0), key[:], key[:]))
	invert(got)
	areSame(t, "the cipher", c, keyed(16, 1))
	c.Has = false
	got, e = c.Seal(c.Key[:], c.Key[:])
	answers(t, "without a key", got, e, key[:])
	invert(got)
	areSame(t, "the key", c.Key, key)
}

// A copy is another cipher.
func TestTwoCiphersHaveNothingToDoWithEachOther(t *testing.T) {
	c, d := keyed(17, 0), keyed(17, 100)
	e := c
	for i := range uint64(10) {
		if _, no := c.Seal(nil, []byte("c")); no != api.OK {
			t.Error(no)
		}
		areSame(t, "the other one", d, keyed(17, 100))
		areSame(t, "the copy", e, keyed(17, 0))
		areSame(t, "who seals", c, keyed(17, i+1))
	}
	d.Rekey()
	areSame(t, "the key of the other one", c, keyed(17, 10))
	e.N = last
	areSame(t, "the number of the other one", c, keyed(17, 10))
}

func TestTheSameCallsOfACipherHaveTheSameAnswers(t *testing.T) {
	sealed := func() []byte {
		c := keyed(18, 3)
		all := []byte{}
		for i := range 30 {
			got, _ := c.Seal(samples.Mixed(i, 18), samples.Mixed(2*i, 19))
			all = append(all, got...)
			if i%7 == 6 {
				c.Rekey()
			}
		}
		return all
	}
	want := sealed()
	for i := range uint32(5) {
		// Calls between them must not count, refused ones neither.
		c := keyed(i, uint64(i))
		c.Open(nil, want)
		c.Rekey()
		answers(t, "again", sealed(), api.OK, want)
	}
}
