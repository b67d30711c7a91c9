package cipher_test

import (
	"bytes"
	"crypto/sha256"
	"encoding/hex"
	"fmt"
	"slices"
	"strings"
	"testing"

	"hatchway/aead"
	"hatchway/api"
	"hatchway/blake"
	"hatchway/cipher"
	"hatchway/curve"
	"hatchway/kdf"
	"hatchway/samples"
)

// plain is a mixer of the chapter's words, written down one by one.
type plain struct {
	chain, hash, key api.Key
	has              bool
	n                uint64
}

func newPlain(name string) *plain {
	var p plain
	if copy(p.hash[:], name); len(name) > 32 {
		p.hash = blake.Sum([]byte(name))
	}
	p.chain = p.hash
	return &p
}

func (p *plain) mixKey(b []byte) {
	p.chain, p.key, _ = kdf.Derive(p.chain, b)
	p.has, p.n = true, 0
}

func (p *plain) mixHash(b []byte) {
	p.hash = blake.Sum(slices.Concat(p.hash[:], b))
}

func (p *plain) rekey() {
	if p.has {
		p.key = api.Key(aead.Seal(p.key, nonce(last), nil, make([]byte, 32))[:32])
	}
}

func (p *plain) seal(b []byte) ([]byte, api.Errno) {
	made := b
	if p.has {
		if p.n == last {
			return nil, api.ErrNonce
		}
		made = aead.Seal(p.key, nonce(p.n), p.hash[:], b)
		p.n++
	}
	p.mixHash(made)
	return made, api.OK
}

func (p *plain) open(b []byte) ([]byte, api.Errno) {
	text := b
	if p.has {
		if p.n == last {
			return nil, api.ErrNonce
		}
		made, e := aead.Open(p.key, nonce(p.n), p.hash[:], b)
		if e != api.OK {
			return nil, e
		}
		text = made
		p.n++
	}
	p.mixHash(b)
	return text, api.OK
}

// split answers both ciphers.
func (p *plain) split() both {
	one, two, _ := kdf.Derive(p.chain, nil)
	return both{{Key: one, Has: true}, {Key: two, Has: true}}
}

// mixer answers the mixer that has the same.
func (p *plain) mixer() cipher.Mixer {
	return cipher.Mixer{Chain: p.chain, Hash: p.hash, Cipher: cipher.Cipher{Key: p.key, Has: p.has, N: p.n}}
}

// both is what Split answers.
type both [2]cipher.Cipher

func split(m *cipher.Mixer) both {
	one, two := m.Split()
	return both{one, two}
}

// mixed answers a mixer in which the seed's bytes are mixed; it has a key, if that is asked for.
func mixed(seed uint32, has bool) *cipher.Mixer {
	m := cipher.NewMixer("mixed")
	m.MixHash(samples.Mixed(50, seed))
	if has {
		m.MixKey(samples.Mixed(60, seed))
	}
	return m
}

// state answers what the mixer has, as bytes.
func state(m *cipher.Mixer) []byte {
	has := byte(0)
	if m.Has {
		has = 1
	}
	id := nonce(m.N)
	return slices.Concat(m.Chain[:], m.Hash[:], m.Key[:], []byte{has}, id[4:])
}

// keyOf answers the key of a text to base sixteen.
func keyOf(text string) api.Key {
	return api.Key(samples.Hex(text))
}

// names answers those of all lengths next to 32 bytes, and some beside them.
func names() []string {
	all := []string{"Noise_N_25519_ChaChaPoly_BLAKE2s", "Noise_IK_25519_ChaChaPoly_BLAKE2s", "a name that ends in 0\x00", "\x00", "grün \xff", strings.Repeat("hatchway ", 100)}
	for n := range 70 {
		all = append(all, string(samples.Mixed(n, uint32(n))))
	}
	return all
}

func TestNewMixer(t *testing.T) {
	for _, name := range names() {
		m := cipher.NewMixer(name)
		if len(name) <= 32 {
			want := api.Key(slices.Concat([]byte(name), make([]byte, 32-len(name))))
			areSame(t, fmt.Sprintf("%q", name), *m, cipher.Mixer{Chain: want, Hash: want})
		} else {
			want := blake.Sum([]byte(name))
			areSame(t, fmt.Sprintf("%q", name), *m, cipher.Mixer{Chain: want, Hash: want})
		}
	}
}

// The sums are those that Python's hashlib tells; those of 32 bytes and fewer are the names themselves.
func TestNewMixerOfKnownNames(t *testing.T) {
	for name, want := range map[string]string{
		"":                                  strings.Repeat("00", 32),
		"short":                             "73686f7274" + strings.Repeat("00", 27),
		strings.Repeat("x", 31):             strings.Repeat("78", 31) + "00",
		strings.Repeat("x", 32):             strings.Repeat("78", 32),
		strings.Repeat("x", 33):             "783d25c273819f484c9835b8832b4681cf5e68d804ea659359f2ba67bddb9159",
		strings.Repeat("x", 64):             "c13eb20b85b1d6a72d52af717429fc54eacc63fecde1295b26f0fa251bdcf40e",
		strings.Repeat("x", 65):             "77f538c970521d7f5b94c5e8c88b8ce35661dfc6d61b5bc837da31e543cc6b81",
		strings.Repeat("\x00", 32):          strings.Repeat("00", 32),
		strings.Repeat("\x00", 33):          "02dc1cbdfa9a150e0fc02f1e098f6f8ccdb676b95bd96704072bf52a9d93a23e",
		strings.Repeat("hatchway ", 100):    "c536486dfd2903e8305acd1f5041466df8176a3dce1f9d1c1dfe43219bab7085",
		"Noise_IK_25519_ChaChaPoly_BLAKE2s": "bbea022b948cf3bc5857d70804229179e1116bc40cb8cc074835349c464bca36",
	} {
		areSame(t, fmt.Sprintf("%q", name), *cipher.NewMixer(name), cipher.Mixer{Chain: keyOf(want), Hash: keyOf(want)})
	}
}

// The keys are those that Python's hmac tells.
func TestMixKeyOfKnownBytes(t *testing.T) {
	for _, c := range []struct {
		b          [][]byte
		chain, key string
	}{
		{[][]byte{nil}, "5633ce451e914f8283454dbdd56357b5fab5e57d53b750234da03a3c2f39fbc9", "5078d38ec15d6b6ff4d43d150f03e32588a9f6b72a9fa4c693f4eba74f62bc13"},
		{[][]byte{[]byte("k")}, "d94f193d2969f59af3cada5bcb6da185e33c616b48e8057b16e79b45db20bc4e", "40351eca11e1528c3b6d064306f70102b7411872eb5019a81e349f3828b40e8c"},
		{[][]byte{[]byte("hello")}, "4e62376e4661f2bab488889dbfec58798c2e1b5e18622132f02060054d09219b", "3f0a8c8582355c3d1838fd38b61fcfc02e4a062ba4cc7c0e65052e3bf03f874f"},
		{[][]byte{make([]byte, 32)}, "e4c555e8337cb95a507c4b4fdfff668ec23ac77713487d8662dd8cb1a6605015", "3ced3fdb28e00e48aff91744cb4fcdf210a0872b4bb7e0769f3a3debc47ad857"},
		{[][]byte{[]byte("one"), []byte("two")}, "0ac244dde144c77916b752cc38f8bbb769fa12f52f096fb708ef71fc5d9e1bd0", "5238974dee8a84a85c6dc7b5f752b6203b5f42d550c53b71be6d2acf1b703327"},
	} {
		m := cipher.NewMixer("short")
		for _, b := range c.b {
			m.N = 5
			m.MixKey(b)
		}
		want := cipher.Mixer{Chain: keyOf(c.chain), Hash: api.Key([]byte("short" + strings.Repeat("\x00", 27))), Cipher: cipher.Cipher{Key: keyOf(c.key), Has: true}}
		areSame(t, fmt.Sprintf("%q", c.b), *m, want)
	}
}

// The sums are those that Python's hashlib tells.
func TestMixHashOfKnownBytes(t *testing.T) {
	for _, c := range []struct {
		b    []byte
		want string
	}{
		{nil, "4db0b2a8b6470e075c1d0553c3842f40575f3e66391d2cc6dbb57cd68db4b0dc"},
		{[]byte("k"), "518086cfa3aee21153d112e5bc703ee77df364198f17e809a6c5360472e99f32"},
		{[]byte("hello"), "8ff93456c080f1a35e8641306b714c024dc0d96ced7782548056bb18a2b0f1b6"},
		{samples.Mixed(1000, 1), "8e72eb92b7a88ef7017b806552df7da8c9316af2b91f75e6bfe32e4375e894db"},
	} {
		m := cipher.NewMixer("short")
		want := *m
		want.Hash = keyOf(c.want)
		m.MixHash(c.b)
		areSame(t, fmt.Sprint(len(c.b), " bytes"), *m, want)
	}
}

func TestMixKeyAndMixHash(t *testing.T) {
	for _, has := range []bool{false, true} {
		for _, size := range lengths() {
			m, b := mixed(1, has), samples.Mixed(size, 20)
			before := *m
			m.MixHash(b)
			want := before
			want.Hash = blake.Sum(slices.Concat(before.Hash[:], b))
			areSame(t, fmt.Sprint("MixHash of ", size), *m, want)

			m.N = 77
			m.MixKey(b)
			one, two, _ := kdf.Derive(before.Chain, b)
			areSame(t, fmt.Sprint("MixKey of ", size), *m, cipher.Mixer{Chain: one, Hash: want.Hash, Cipher: cipher.Cipher{Key: two, Has: true}})
		}
	}
}

// Without a key it is b that is told, and that is mixed in.
func TestSealMixedAndOpenMixedWithoutAKey(t *testing.T) {
	for _, n := range []uint64{0, 7, last} {
		for _, size := range lengths() {
			m, o, b := mixed(2, false), mixed(2, false), samples.Mixed(size, 21)
			m.N, o.N = n, n
			want := *m
			want.Hash = blake.Sum(slices.Concat(m.Hash[:], b))
			got, e := m.SealMixed(b)
			answers(t, fmt.Sprint("SealMixed of ", size), got, e, b)
			areSame(t, fmt.Sprint("who sealed ", size), *m, want)
			got, e = o.OpenMixed(b)
			answers(t, fmt.Sprint("OpenMixed of ", size), got, e, b)
			areSame(t, fmt.Sprint("who opened ", size), *o, want)
		}
	}
}

// With a key it is what was sealed that is mixed in, on both sides.
func TestSealMixedAndOpenMixedWithAKey(t *testing.T) {
	for _, n := range numbers() {
		for _, size := range lengths() {
			m, o, b := mixed(3, true), mixed(3, true), samples.Mixed(size, 22)
			m.N, o.N = n, n
			sealed := aead.Seal(m.Key, nonce(n), m.Hash[:], b)
			want := *m
			want.Hash, want.N = blake.Sum(slices.Concat(m.Hash[:], sealed)), n+1
			got, e := m.SealMixed(b)
			answers(t, fmt.Sprint("SealMixed of ", size, " at ", n), got, e, sealed)
			areSame(t, fmt.Sprint("who sealed ", size, " at ", n), *m, want)
			got, e = o.OpenMixed(sealed)
			answers(t, fmt.Sprint("OpenMixed of ", size, " at ", n), got, e, b)
			areSame(t, fmt.Sprint("who opened ", size, " at ", n), *o, want)
		}
	}
}

func TestWhatIsRefusedIsNotMixedIn(t *testing.T) {
	m, o := mixed(4, true), mixed(4, true)
	sealed, _ := m.SealMixed([]byte("abc"))
	before := *o
	refuse := func(what string, b []byte) {
		t.Helper()
		got, e := o.OpenMixed(b)
		refuses(t, what, got, e, api.ErrSeal)
		areSame(t, "the mixer behind "+what, *o, before)
	}
	for bit := range 8 * len(sealed) {
		refuse("another bit", samples.Flipped(sealed, bit))
	}
	for size := range sealed {
		refuse("less", sealed[:size])
	}
	refuse("nothing", nil)
	refuse("more", append(bytes.Clone(sealed), 0))
	refuse("what stands beside nothing", aead.Seal(o.Key, nonce(0), nil, []byte("abc")))
	refuse("the next number", aead.Seal(o.Key, nonce(1), o.Hash[:], []byte("abc")))
	got, e := o.OpenMixed(sealed)
	answers(t, "what was sealed", got, e, []byte("abc"))
	areSame(t, "both", *o, *m)
	before = *o
	refuse("what came before", sealed)
}

func TestNoNumberIsLeftToAMixer(t *testing.T) {
	m, o := mixed(5, true), mixed(5, true)
	m.N, o.N = last-1, last-1
	sealed, e := m.SealMixed([]byte("abc"))
	answers(t, "the last one", sealed, e, aead.Seal(o.Key, nonce(last-1), o.Hash[:], []byte("abc")))
	opened, e := o.OpenMixed(sealed)
	answers(t, "the last one", opened, e, []byte("abc"))
	before := *m
	for range 5 {
		got, e := m.SealMixed([]byte("abc"))
		refuses(t, "SealMixed", got, e, api.ErrNonce)
		got, e = m.OpenMixed(aead.Seal(m.Key, nonce(last), m.Hash[:], []byte("abc")))
		refuses(t, "OpenMixed", got, e, api.ErrNonce)
		got, e = m.OpenMixed(nil)
		refuses(t, "OpenMixed of nothing", got, e, api.ErrNonce)
		areSame(t, "who has no number", *m, before)
	}
	areSame(t, "both", *o, *m)
	m.MixKey(nil)
	one, two, _ := kdf.Derive(before.Chain, nil)
	areSame(t, "with a new key", *m, cipher.Mixer{Chain: one, Hash: before.Hash, Cipher: cipher.Cipher{Key: two, Has: true}})
}

func TestSplit(t *testing.T) {
	for _, has := range []bool{false, true} {
		for _, n := range []uint64{0, 3, last} {
			m := mixed(6, has)
			m.N = n
			before := *m
			one, two, _ := kdf.Derive(m.Chain, nil)
			want := both{{Key: one, Has: true}, {Key: two, Has: true}}
			areSame(t, "Split", split(m), want)
			areSame(t, "the mixer", *m, before)
			areSame(t, "Split again", split(m), want)
		}
	}
	// These are the keys that Python's hmac tells.
	m := cipher.NewMixer("short")
	areSame(t, "short", split(m), both{
		{Key: keyOf("5633ce451e914f8283454dbdd56357b5fab5e57d53b750234da03a3c2f39fbc9"), Has: true},
		{Key: keyOf("5078d38ec15d6b6ff4d43d150f03e32588a9f6b72a9fa4c693f4eba74f62bc13"), Has: true},
	})
	m.MixKey([]byte("k"))
	areSame(t, "short, and k", split(m), both{
		{Key: keyOf("c523ce08cbb32b82d6969fd0646e55770de6aa1033fc555fbe5f15f1c42ffa8b"), Has: true},
		{Key: keyOf("8941ee776c6f791fb83d3991c0d0511b0aee33041545b6f949624fd0cc2c2d77"), Has: true},
	})
}

// The ciphers of Split are those of two who mixed likewise: one's first is the other one's first.
func TestWhoSplitLikewiseOpenEachOther(t *testing.T) {
	m, o := split(mixed(7, true)), split(mixed(7, true))
	for i := range m {
		for n := range 20 {
			text, beside := samples.Mixed(n*n, uint32(i)), samples.Mixed(n, 23)
			sealed, _ := m[i].Seal(beside, text)
			got, e := o[1-i].Open(beside, sealed)
			refuses(t, "the other direction", got, e, api.ErrSeal)
			got, e = o[i].Open(beside, sealed)
			answers(t, "its own direction", got, e, text)
		}
	}
	areSame(t, "both", m, o)
}

// The cipher in a mixer is one like others: what it does alone mixes nothing in.
func TestTheCipherOfAMixer(t *testing.T) {
	m := mixed(8, true)
	before := *m
	got, e := m.Seal([]byte("x"), []byte("abc"))
	answers(t, "Seal", got, e, aead.Seal(before.Key, nonce(0), []byte("x"), []byte("abc")))
	got, e = m.Open([]byte("x"), aead.Seal(before.Key, nonce(1), []byte("x"), []byte("abc")))
	answers(t, "Open", got, e, []byte("abc"))
	before.N = 2
	areSame(t, "the mixer", *m, before)
	m.Rekey()
	before.Rekey()
	areSame(t, "the mixer behind Rekey", *m, before)
}

// step does the same with both, and fails, unless they answer, and become, the same.
func step(t *testing.T, m *cipher.Mixer, p *plain, way byte, b []byte) {
	t.Helper()
	var got, want []byte
	var e, f api.Errno
	switch way % 9 {
	case 0:
		m.MixKey(b)
		p.mixKey(b)
	case 1:
		m.MixHash(b)
		p.mixHash(b)
	case 2, 3:
		got, e = m.SealMixed(b)
		want, f = p.seal(b)
	case 4, 5:
		other := *p
		sealed, _ := other.seal(b)
		got, e = m.OpenMixed(sealed)
		want, f = p.open(sealed)
	case 6:
		got, e = m.OpenMixed(b)
		want, f = p.open(b)
	case 7:
		m.Rekey()
		p.rekey()
	case 8:
		// What is left is one number, or none.
		m.N = last - uint64(len(b)%2)
		p.n = m.N
	}
	if !bytes.Equal(got, want) || e != f {
		t.Errorf("way %d: got %x, %d, want %x, %d", way%9, got, e, want, f)
	}
	areSame(t, fmt.Sprint("behind way ", way%9), *m, p.mixer())
	areSame(t, "Split", split(m), p.split())
}

func TestManyOrders(t *testing.T) {
	for seed := range uint32(400) {
		name := string(samples.Mixed(int(seed%70), seed))
		m, p := cipher.NewMixer(name), newPlain(name)
		for i, way := range samples.Mixed(30, seed+5000) {
			step(t, m, p, way, samples.Mixed(int(way)/2, seed*100+uint32(i)))
		}
	}
}

// Each way behind each two others, from nothing and from a key.
func TestAllOrdersOfThree(t *testing.T) {
	for order := range 9 * 9 * 9 {
		for _, has := range []bool{false, true} {
			m, p := cipher.NewMixer("orders"), newPlain("orders")
			if has {
				step(t, m, p, 0, []byte("key"))
			}
			for i, way := range []int{order / 81, order / 9 % 9, order % 9} {
				step(t, m, p, byte(way), samples.Mixed(20+i, uint32(order)))
			}
		}
	}
}

// turn does the same with two that were mixed likewise, and answers what one of them sealed for the other one.
func turn(t *testing.T, m, o *cipher.Mixer, way byte, b []byte) []byte {
	t.Helper()
	switch way {
	case 0:
		m.MixKey(b)
		o.MixKey(b)
		return nil
	case 1:
		m.MixHash(b)
		o.MixHash(b)
		return nil
	case 5:
		m.Rekey()
		o.Rekey()
		return nil
	case 4:
		m, o = o, m
	}
	sealed, e := m.SealMixed(b)
	if e != api.OK {
		t.Errorf("way %d: %d", way, e)
	}
	opened, e := o.OpenMixed(sealed)
	answers(t, fmt.Sprint("way ", way), opened, e, b)
	return sealed
}

// For many rows; the sum over all that was told, and became, is what OpenSSL and Python's hmac and hashlib tell.
func TestTwoThatAreMixedLikewise(t *testing.T) {
	all := sha256.New()
	for seed := range uint32(200) {
		name := string(samples.Mixed(int(seed%70), seed))
		m, o := cipher.NewMixer(name), cipher.NewMixer(name)
		for i, v := range samples.Mixed(24, seed+1000) {
			all.Write(turn(t, m, o, v>>5%6, samples.Mixed(int(v), seed*100+uint32(i))))
			areSame(t, fmt.Sprint("both of row ", seed), *o, *m)
			all.Write(state(m))
		}
		for _, c := range split(m) {
			all.Write(c.Key[:])
		}
	}
	if got := hex.EncodeToString(all.Sum(nil)); got != "7068bdce7d07a5760f8eab05b090a027932c3c0134fb96093db55a019ee2e306" {
		t.Errorf("got %s", got)
	}
}

// To be mixed otherwise in one place is enough.
func TestWhoIsMixedOtherwiseOpensNothing(t *testing.T) {
	rows := map[string]func(m *cipher.Mixer){
		"likewise":         func(m *cipher.Mixer) { m.MixHash([]byte("one")); m.MixKey([]byte("two")) },
		"another hash":     func(m *cipher.Mixer) { m.MixHash([]byte("One")); m.MixKey([]byte("two")) },
		"another key":      func(m *cipher.Mixer) { m.MixHash([]byte("one")); m.MixKey([]byte("Two")) },
		"no hash":          func(m *cipher.Mixer) { m.MixKey([]byte("two")) },
		"two keys":         func(m *cipher.Mixer) { m.MixHash([]byte("one")); m.MixKey([]byte("t")); m.MixKey([]byte("wo")) },
		"a hash of no use": func(m *cipher.Mixer) { m.MixHash([]byte("one")); m.MixKey([]byte("two")); m.MixHash(nil) },
		"a number behind":  func(m *cipher.Mixer) { m.MixHash([]byte("one")); m.MixKey([]byte("two")); m.N++ },
		"Rekey":            func(m *cipher.Mixer) { m.MixHash([]byte("one")); m.MixKey([]byte("two")); m.Rekey() },
	}
	for what, mix := range rows {
		m, o := cipher.NewMixer("otherwise"), cipher.NewMixer("otherwise")
		rows["likewise"](m)
		mix(o)
		sealed, _ := m.SealMixed([]byte("abc"))
		got, e := o.OpenMixed(sealed)
		if what == "likewise" {
			answers(t, what, got, e, []byte("abc"))
		} else {
			refuses(t, what, got, e, api.ErrSeal)
		}
	}
}

// handKey answers 32 bytes that count up: such are the keys in the tests of flynn/noise.
func handKey(from byte) api.Key {
	var key api.Key
	for i := range key {
		key[i] = from + byte(i)
	}
	return key
}

// dh mixes in the secret of two keys.
func dh(m *cipher.Mixer, own, other api.Key) {
	secret, _ := curve.Shared(own, other)
	m.MixKey(secret[:])
}

// says fails, unless the mixer seals the text as it is wanted, behind what was told before.
func says(t *testing.T, what string, m *cipher.Mixer, told []byte, text, want string) {
	t.Helper()
	sealed, e := m.SealMixed([]byte(text))
	answers(t, what, slices.Concat(told, sealed), e, samples.Hex(want))
}

// tells fails, unless the cipher seals the text as it is wanted, beside nothing.
func tells(t *testing.T, what string, c *cipher.Cipher, text, want string) {
	t.Helper()
	sealed, e := c.Seal(nil, []byte(text))
	answers(t, what, sealed, e, samples.Hex(want))
}

// The hand N of Noise, whose name has 32 bytes, as the tests of flynn/noise have it.
func TestTheHandN(t *testing.T) {
	answerer, once := curve.Public(handKey(1)), handKey(0x20)
	public := curve.Public(once)
	m := cipher.NewMixer("Noise_N_25519_ChaChaPoly_BLAKE2s")
	m.MixHash([]byte("notsecret"))
	m.MixHash(answerer[:])
	m.MixHash(public[:])
	dh(m, once, answerer)
	says(t, "the first one", m, public[:], "test_msg_0",
		"358072d6365880d1aeea329adf9121383851ed21a28e3b75e965d0d2cd166254ae81c7528e1cf6662cf390a71ae79e4927b62e8f1c66496d38c2")
	one, two := m.Split()
	tells(t, "by the first cipher", &one, "yellowsubmarine", "a003941c6d2ae21678d1cae7b5723e9a3ae85c4e29a451baa136ddac80778b")
	tells(t, "by the second cipher", &two, "submarineyellow", "bf8afb4d3362b8931b247215132eed804ccad21b25f1441cfd9bc6d04c4f3d")
}

// The hand IK of Noise, whose name has 33, likewise.
func TestTheHandIK(t *testing.T) {
	starter, answerer := handKey(0), handKey(1)
	onceOfStarter, onceOfAnswerer := handKey(0x20), handKey(0x41)
	static, first, second := curve.Public(starter), curve.Public(onceOfStarter), curve.Public(onceOfAnswerer)
	public := curve.Public(answerer)
	m := cipher.NewMixer("Noise_IK_25519_ChaChaPoly_BLAKE2s")
	m.MixHash([]byte("notsecret"))
	m.MixHash(public[:])
	m.MixHash(first[:])
	dh(m, onceOfStarter, public)
	sealed, _ := m.SealMixed(static[:])
	dh(m, starter, public)
	says(t, "the first one", m, slices.Concat(first[:], sealed), "test_msg_0",
		"358072d6365880d1aeea329adf9121383851ed21a28e3b75e965d0d2cd166254c9f0dff42c86abe5677abe74f6c87301577dbc1f3ffb2213827ca694a057fdbbacac81d639bfae65c7827558f90acd277316fcb3b0687be852fd7e392456bb6cbe070c749f1bd7c55fc2")
	m.MixHash(second[:])
	dh(m, onceOfAnswerer, first)
	dh(m, onceOfAnswerer, static)
	says(t, "the second one", m, second[:], "test_msg_1",
		"64b101b1d0be5a8704bd078f9895001fc03e8e9f9522f188dd128d9846d484667f1d8bd2b9b659695f90e35beaf5a5f5f1e7c83aa3194a2430cd")
	one, two := m.Split()
	tells(t, "who started", &one, "yellowsubmarine", "595694f9be48f03790f699455c84578b31d14a7baedfd736d73c53f66a5657")
	tells(t, "who answered", &two, "submarineyellow", "621ae446b11fda3cf08e56102dac9324dee37a4e536cdc878e8b454d98bcf2")
}

func TestAMixerKeepsNothingThatItIsHanded(t *testing.T) {
	for _, has := range []bool{false, true} {
		for _, size := range lengths() {
			m, o, want := mixed(9, has), mixed(9, has), mixed(9, has)
			b, text := roomy(size, 24), samples.Mixed(size, 24)
			stays := func(what string) {
				t.Helper()
				if !bytes.Equal(whole(b), samples.Mixed(size+40, 24)) {
					t.Errorf("%d bytes: %s wrote over what it was handed", size, what)
				}
			}
			sealed, _ := m.SealMixed(b)
			stays("SealMixed")
			opened, _ := o.OpenMixed(sealed)
			stays("OpenMixed")
			told, _ := want.SealMixed(text)
			answers(t, "what OpenMixed was handed", sealed, api.OK, told)
			m.MixHash(b)
			stays("MixHash")
			m.MixKey(b)
			stays("MixKey")
			want.MixHash(text)
			want.MixKey(text)

			invert(whole(sealed))
			stays("who turned what was sealed")
			answers(t, "opened", opened, api.OK, text)
			invert(whole(b))
			answers(t, "opened", opened, api.OK, text)
			invert(whole(opened))
			areSame(t, "the mixer", *m, *want)
		}
	}
}

// What it is handed may be its own: it counts as it stood there at first.
func TestAMixerIsHandedItsOwnBytes(t *testing.T) {
	for _, has := range []bool{false, true} {
		m, want := mixed(10, has), mixed(10, has)
		sealed, e := m.SealMixed(m.Hash[:])
		told, _ := want.SealMixed(bytes.Clone(want.Hash[:]))
		answers(t, "SealMixed", sealed, e, told)
		m.MixHash(m.Hash[:])
		want.MixHash(bytes.Clone(want.Hash[:]))
		m.MixKey(m.Chain[:])
		want.MixKey(bytes.Clone(want.Chain[:]))
		m.MixKey(m.Key[:])
		want.MixKey(bytes.Clone(want.Key[:]))
		areSame(t, "the mixer", *m, *want)
	}
}

func TestTwoMixersHaveNothingToDoWithEachOther(t *testing.T) {
	m, o := mixed(11, true), mixed(12, true)
	third, other := *m, *o
	one, two := m.Split()
	before := both{one, two}
	m.MixHash([]byte("x"))
	m.SealMixed([]byte("abc"))
	m.Rekey()
	m.MixKey([]byte("x"))
	areSame(t, "the other one", *o, other)
	areSame(t, "the copy", third, *mixed(11, true))
	areSame(t, "the ciphers", both{one, two}, before)

	now := *m
	one.Seal(nil, nil)
	areSame(t, "the second cipher", two, before[1])
	two.Rekey()
	areSame(t, "the first cipher", one, cipher.Cipher{Key: before[0].Key, Has: true, N: 1})
	third.MixHash(nil)
	areSame(t, "the mixer", *m, now)
}

func TestTheSameCallsOfAMixerHaveTheSameAnswers(t *testing.T) {
	row := func() []byte {
		m := cipher.NewMixer("the same")
		all := []byte{}
		for i, v := range samples.Mixed(40, 25) {
			b := samples.Mixed(int(v), uint32(i))
			switch v % 3 {
			case 0:
				m.MixKey(b)
			case 1:
				m.MixHash(b)
			case 2:
				sealed, _ := m.SealMixed(b)
				all = append(all, sealed...)
			}
			all = append(all, state(m)...)
		}
		return all
	}
	want := row()
	for seed := range uint32(5) {
		// Calls between them must not count, refused ones neither.
		m := mixed(seed, true)
		m.OpenMixed(want)
		m.Split()
		answers(t, "again", row(), api.OK, want)
	}
}
