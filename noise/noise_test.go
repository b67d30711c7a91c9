package noise_test

import (
	"bytes"
	"fmt"
	"slices"
	"testing"

	"hatchway/api"
	"hatchway/cipher"
	"hatchway/curve"
	"hatchway/noise"
	"hatchway/samples"
)

// keys are those of two who agree, each their own.
type keys struct {
	starter, answerer         api.Key
	starterOnce, answererOnce api.Key
}

// keysOf answers keys of the seed.
func keysOf(seed uint32) keys {
	at := 10 * seed
	return keys{samples.Key(at + 1), samples.Key(at + 2), samples.Key(at + 3), samples.Key(at + 4)}
}

// start answers the hand of who starts.
func (k keys) start(prologue []byte) *noise.Hand {
	return noise.Start(prologue, k.starter, curve.Public(k.answerer), k.starterOnce)
}

// answer answers the hand of who answers.
func (k keys) answer(prologue []byte) *noise.Hand {
	return noise.Answer(prologue, k.answerer, k.answererOnce)
}

// plain is a mixer with which the chapter's words are done one by one.
type plain struct {
	*cipher.Mixer
}

func newPlain(prologue []byte, answerer api.Key) plain {
	p := plain{cipher.NewMixer("Noise_IK_25519_ChaChaPoly_BLAKE2s")}
	p.MixHash(prologue)
	p.MixHash(answerer[:])
	return p
}

// dh mixes in the secret of two keys, whatever it is.
func (p plain) dh(own, other api.Key) {
	secret := curve.Mult(own, other)
	p.MixKey(secret[:])
}

// public mixes in the public key of one's own.
func (p plain) public(own api.Key) []byte {
	public := curve.Public(own)
	p.MixHash(public[:])
	return public[:]
}

func (p plain) seal(b []byte) []byte {
	sealed, _ := p.SealMixed(b)
	return sealed
}

// first answers what First tells: what is said of who is speaking is static, and other is the key of who answers.
func (p plain) first(own, once, static, other api.Key, b []byte) []byte {
	told := p.public(once)
	p.dh(once, other)
	told = append(told, p.seal(static[:])...)
	p.dh(own, other)
	return append(told, p.seal(b)...)
}

// second answers what Second tells.
func (p plain) second(once, seen, static api.Key, b []byte) []byte {
	told := p.public(once)
	p.dh(once, seen)
	p.dh(once, static)
	return append(told, p.seal(b)...)
}

// ends is what Split answers.
type ends struct {
	send, hear cipher.Cipher
	hash       api.Key
}

// split fails, unless the hand has ciphers.
func split(t *testing.T, what string, h *noise.Hand) ends {
	t.Helper()
	send, hear, hash, e := h.Split()
	if e != api.OK {
		t.Errorf("%s: Split has error %d", what, e)
	}
	return ends{send, hear, hash}
}

// isStopped fails, unless Split has ErrState, and nothing beside it.
func isStopped(t *testing.T, what string, h *noise.Hand) {
	t.Helper()
	send, hear, hash, e := h.Split()
	areSame(t, what+": what Split tells", ends{send, hear, hash}, ends{})
	areSame(t, what+": what Split has", e, api.ErrState)
}

// answers fails, unless the answer is the one that is wanted, and OK.
func answers(t *testing.T, what string, got []byte, e api.Errno, want []byte) {
	t.Helper()
	if !bytes.Equal(got, want) || e != api.OK {
		t.Errorf("%s: got %x, %d, want %x", what, got, e, want)
	}
}

// refuses fails, unless there is nothing but the error.
func refuses(t *testing.T, what string, got []byte, e, want api.Errno) {
	t.Helper()
	if len(got) != 0 || e != want {
		t.Errorf("%s: got %x, %d, want error %d", what, got, e, want)
	}
}

// areSame fails, unless both are the same.
func areSame[T comparable](t *testing.T, what string, got, want T) {
	t.Helper()
	if got != want {
		t.Errorf("%s: got %v, want %v", what, got, want)
	}
}

// agree fails, unless both hands take all their steps; it answers both texts that were told.
func agree(t *testing.T, what string, a, b *noise.Hand, one, two []byte) ([]byte, []byte) {
	t.Helper()
	x, e := a.First(one)
	areSame(t, what+": what First has", e, api.OK)
	heard, e := b.Hear(x)
	answers(t, what+": Hear", heard, e, one)
	y, e := b.Second(two)
	areSame(t, what+": what Second has", e, api.OK)
	heard, e = a.Done(y)
	answers(t, what+": Done", heard, e, two)
	return x, y
}

// lengths answers those of texts and of prologues: none, one, next to blocks, and many.
func lengths() []int {
	return []int{0, 1, 15, 16, 17, 32, 63, 64, 65, 1000}
}

func TestFirstOfNothingHas96BytesAndSecond48(t *testing.T) {
	k := keysOf(1)
	for _, nothing := range [][]byte{nil, {}} {
		x, y := agree(t, "nothing", k.start(nothing), k.answer(nothing), nothing, nothing)
		areSame(t, "First", len(x), 96)
		areSame(t, "Second", len(y), 48)
	}
}

func TestTheNameIsTheOneThatIsMixed(t *testing.T) {
	areSame(t, "Name", noise.Name, "Noise_IK_25519_ChaChaPoly_BLAKE2s")
}

// All that is told, and all that both end with, is that of the chapter's words, done one by one.
func TestWhatIsTold(t *testing.T) {
	for i, size := range lengths() {
		for j, length := range []int{0, 1, 65, 1000} {
			k, what := keysOf(uint32(10*i+j)), fmt.Sprint("prologue of ", size, ", text of ", length)
			prologue := samples.Mixed(size, 1)
			one, two := samples.Mixed(length, 2), samples.Mixed(length/2, 3)
			a, b := k.start(prologue), k.answer(prologue)
			x, y := agree(t, what, a, b, one, two)

			static, p := curve.Public(k.starter), newPlain(prologue, curve.Public(k.answerer))
			answers(t, what+": First", x, api.OK, p.first(k.starter, k.starterOnce, static, curve.Public(k.answerer), one))
			answers(t, what+": Second", y, api.OK, p.second(k.answererOnce, curve.Public(k.starterOnce), static, two))
			m, n := p.Split()
			areSame(t, what+": who started", split(t, what, a), ends{m, n, p.Hash})
			areSame(t, what+": who answered", split(t, what, b), ends{n, m, p.Hash})
		}
	}
}

func TestLongTextsAndPrologues(t *testing.T) {
	k, long := keysOf(2), samples.Mixed(200000, 4)
	x, y := agree(t, "long", k.start(long), k.answer(long), long, long[1:])
	areSame(t, "First", len(x), 96+200000)
	areSame(t, "Second", len(y), 48+199999)
}

// Whoever it is, both end with the same, and open what the other one seals, in both directions.
func TestBothOpenWhatTheOtherOneSeals(t *testing.T) {
	for seed := range uint32(30) {
		k, what := keysOf(seed+100), fmt.Sprint("seed ", seed)
		a, b := k.start([]byte("hatchway")), k.answer([]byte("hatchway"))
		agree(t, what, a, b, samples.Mixed(8, seed), nil)
		m, n := split(t, what, a), split(t, what, b)
		areSame(t, what+": one direction", m.send, n.hear)
		areSame(t, what+": the other direction", m.hear, n.send)
		areSame(t, what+": the hash", m.hash, n.hash)
		for i := range 10 {
			text, beside := samples.Mixed(i*i, seed), samples.Mixed(i, 5)
			hears(t, what, &m.send, &n.hear, beside, text)
			hears(t, what, &n.send, &m.hear, beside, text)
			sealed, _ := m.send.Seal(nil, text)
			n.hear.N++
			got, e := m.hear.Open(nil, sealed)
			refuses(t, what+": who sealed it", got, e, api.ErrSeal)
		}
	}
}

// hears fails, unless one opens what the other one seals.
func hears(t *testing.T, what string, send, hear *cipher.Cipher, beside, text []byte) {
	t.Helper()
	sealed, e := send.Seal(beside, text)
	areSame(t, what+": what Seal has", e, api.OK)
	got, e := hear.Open(beside, sealed)
	answers(t, what+": Open", got, e, text)
}

// Keys of all sorts will do as one's own: no bits, all bits, and twice the same.
func TestKeysOfOnesOwnOfAllSorts(t *testing.T) {
	full := api.Key(bytes.Repeat([]byte{255}, 32))
	for i, k := range []keys{
		{}, {full, full, full, full}, {full, api.Key{}, full, api.Key{}}, {starter: full, answererOnce: full},
		{samples.Key(1), samples.Key(1), samples.Key(2), samples.Key(2)},
		{samples.Key(1), samples.Key(2), samples.Key(1), samples.Key(2)},
		{samples.Key(1), samples.Key(2), samples.Key(2), samples.Key(1)},
	} {
		a, b := k.start(nil), k.answer(nil)
		agree(t, fmt.Sprint("keys ", i), a, b, []byte("one"), []byte("two"))
		areSame(t, "the hash", split(t, "a", a).hash, split(t, "b", b).hash)
	}
}

// Who starts knows the other one at once, who answers behind Hear; both for good.
func TestOther(t *testing.T) {
	for seed := range uint32(5) {
		k := keysOf(seed + 200)
		a, b := k.start(nil), k.answer(nil)
		starter, answerer := curve.Public(k.starter), curve.Public(k.answerer)
		know := func(when string, ofStarter, ofAnswerer api.Key) {
			t.Helper()
			areSame(t, when+": who starts", a.Other(), ofStarter)
			areSame(t, when+": who answers", b.Other(), ofAnswerer)
		}
		know("at first", answerer, api.Key{})
		x, _ := a.First(nil)
		know("behind First", answerer, api.Key{})
		b.Hear(x)
		know("behind Hear", answerer, starter)
		y, _ := b.Second(nil)
		know("behind Second", answerer, starter)
		a.Done(y)
		know("behind Done", answerer, starter)
		a.Done(y)
		b.Second(nil)
		know("behind calls that were refused", answerer, starter)
	}
}

// It is as it was handed in, also where Start knows nobody by it.
func TestOtherOfWhoStartsIsWhatItWasHanded(t *testing.T) {
	for i, other := range slices.Concat(samples.Smalls(), []api.Key{samples.Key(1), {9, 31: 128}, {31: 255}}) {
		a := noise.Start([]byte("p"), samples.Key(2), other, samples.Key(3))
		areSame(t, fmt.Sprint("key ", i), a.Other(), other)
		a.First(nil)
		areSame(t, fmt.Sprint("key ", i, " behind First"), a.Other(), other)
		a.Done(nil)
		areSame(t, fmt.Sprint("key ", i, " behind Done"), a.Other(), other)
	}
}
