package noise_test

import (
	"fmt"
	"slices"
	"testing"

	"hatchway/api"
	"hatchway/curve"
	"hatchway/noise"
	"hatchway/samples"
)

// smalls answers all public keys with which nobody has a secret.
func smalls() []api.Key {
	all := samples.Smalls()
	for _, key := range samples.Smalls() {
		all = append(all, api.Key(samples.Flipped(key[:], 255)))
	}
	return all
}

// stops fails, unless a copy of the hand refuses the text with the error, knows nobody that it did not know before, and takes nothing more.
func stops(t *testing.T, what string, h noise.Hand, do func(h *noise.Hand, b []byte) ([]byte, api.Errno), b []byte, want api.Errno) {
	t.Helper()
	other := h.Other()
	got, e := do(&h, b)
	refuses(t, what, got, e, want)
	areSame(t, what+": Other", h.Other(), other)
	isStopped(t, what, &h)
	for _, name := range []string{"First", "Hear", "Second", "Done"} {
		got, e := with(name, b)(&h)
		refuses(t, what+": "+name+" behind it", got, e, api.ErrState)
	}
	areSame(t, what+": Other", h.Other(), other)
	isStopped(t, what, &h)
}

func TestHearOfFewerThan96Bytes(t *testing.T) {
	k := keysOf(4)
	a, b := k.start(nil), k.answer(nil)
	x, _ := a.First(nil)
	stops(t, "nil", *b, (*noise.Hand).Hear, nil, api.ErrForm)
	for n := range 96 {
		stops(t, fmt.Sprint(n, " bytes of what was told"), *b, (*noise.Hand).Hear, x[:n], api.ErrForm)
		stops(t, fmt.Sprint(n, " bytes 0"), *b, (*noise.Hand).Hear, make([]byte, n), api.ErrForm)
	}
	got, e := b.Hear(x)
	answers(t, "96 bytes", got, e, nil)
}

func TestDoneOfFewerThan48Bytes(t *testing.T) {
	k := keysOf(5)
	a, b := k.start(nil), k.answer(nil)
	x, _ := a.First(nil)
	b.Hear(x)
	y, _ := b.Second(nil)
	stops(t, "nil", *a, (*noise.Hand).Done, nil, api.ErrForm)
	for n := range 48 {
		stops(t, fmt.Sprint(n, " bytes of what was told"), *a, (*noise.Hand).Done, y[:n], api.ErrForm)
		stops(t, fmt.Sprint(n, " bytes 0"), *a, (*noise.Hand).Done, make([]byte, n), api.ErrForm)
	}
	got, e := a.Done(y)
	answers(t, "48 bytes", got, e, nil)
}

// Enough bytes, but not those that were told: some at the end are wanting, or too many, and nothing but the seal tells it.
func TestAnotherLength(t *testing.T) {
	k := keysOf(6)
	a, b := k.start(nil), k.answer(nil)
	x, _ := a.First(samples.Mixed(50, 1))
	for n := 96; n < len(x); n++ {
		stops(t, fmt.Sprint("Hear of ", n), *b, (*noise.Hand).Hear, x[:n], api.ErrSeal)
	}
	stops(t, "Hear of one too many", *b, (*noise.Hand).Hear, append(slices.Clone(x), 0), api.ErrSeal)
	stops(t, "Hear of one too few at the front", *b, (*noise.Hand).Hear, x[1:], api.ErrSeal)
	b.Hear(x)
	y, _ := b.Second(samples.Mixed(50, 2))
	for n := 48; n < len(y); n++ {
		stops(t, fmt.Sprint("Done of ", n), *a, (*noise.Hand).Done, y[:n], api.ErrSeal)
	}
	stops(t, "Done of one too many", *a, (*noise.Hand).Done, append(slices.Clone(y), 0), api.ErrSeal)
	stops(t, "Done of one too few at the front", *a, (*noise.Hand).Done, y[1:], api.ErrSeal)
	got, e := a.Done(y)
	answers(t, "Done", got, e, samples.Mixed(50, 2))
}

// Each bit counts, the highest one of the public key too, of which no secret tells.
func TestAnyOtherBit(t *testing.T) {
	k := keysOf(7)
	a, b := k.start([]byte("p")), k.answer([]byte("p"))
	x, _ := a.First([]byte("one"))
	for bit := range 8 * len(x) {
		stops(t, fmt.Sprint("Hear, bit ", bit), *b, (*noise.Hand).Hear, samples.Flipped(x, bit), api.ErrSeal)
	}
	b.Hear(x)
	y, _ := b.Second([]byte("two"))
	for bit := range 8 * len(y) {
		stops(t, fmt.Sprint("Done, bit ", bit), *a, (*noise.Hand).Done, samples.Flipped(y, bit), api.ErrSeal)
	}
	got, e := a.Done(y)
	answers(t, "Done", got, e, []byte("two"))
}

// What both must know is all mixed in, and who is not meant can't open it.
func TestWhoIsNotMeantOpensNothing(t *testing.T) {
	k, p := keysOf(8), []byte("prologue")
	x, _ := k.start(p).First([]byte("one"))
	for what, prologue := range map[string][]byte{
		"none": nil, "less": p[:7], "more": append(slices.Clone(p), 0), "another": []byte("prologuE"), "long": samples.Mixed(1000, 1),
	} {
		stops(t, "prologue: "+what, *k.answer(prologue), (*noise.Hand).Hear, x, api.ErrSeal)
		other, _ := k.start(prologue).First([]byte("one"))
		stops(t, "prologue told: "+what, *k.answer(p), (*noise.Hand).Hear, other, api.ErrSeal)
	}
	for bit := range 256 {
		other := k
		other.answerer = api.Key(samples.Flipped(k.answerer[:], bit))
		if curve.Public(other.answerer) != curve.Public(k.answerer) {
			stops(t, fmt.Sprint("own key, bit ", bit), *other.answer(p), (*noise.Hand).Hear, x, api.ErrSeal)
		}
	}

	// The same number as a public key, but other bytes.
	public := curve.Public(k.answerer)
	public[31] |= 128
	x, e := noise.Start(p, k.starter, public, k.starterOnce).First(nil)
	areSame(t, "the highest bit: what First has", e, api.OK)
	stops(t, "the highest bit", *k.answer(p), (*noise.Hand).Hear, x, api.ErrSeal)
}

// Done takes just what was answered to what this hand told.
func TestWhoHasNotHeardThisOneAnswersNothing(t *testing.T) {
	k, others := keysOf(9), keysOf(10)
	a, b := k.start(nil), k.answer(nil)
	x, _ := a.First([]byte("one"))
	b.Hear(x)
	y, _ := b.Second(nil)

	for what, other := range map[string]keys{
		"another key for this time": {k.starter, k.answerer, others.starterOnce, k.answererOnce},
		"another key of one's own":  {others.starter, k.answerer, k.starterOnce, k.answererOnce},
		"another one who answers":   {k.starter, others.answerer, k.starterOnce, k.answererOnce},
	} {
		h := other.start(nil)
		h.First([]byte("one"))
		stops(t, what, *h, (*noise.Hand).Done, y, api.ErrSeal)
	}
	h := k.start(nil)
	h.First([]byte("One"))
	stops(t, "another text", *h, (*noise.Hand).Done, y, api.ErrSeal)
	stops(t, "what it told itself", *a, (*noise.Hand).Done, x, api.ErrSeal)
	stops(t, "what nobody told", *a, (*noise.Hand).Done, samples.Mixed(48, 1), api.ErrSeal)
	got, e := a.Done(y)
	answers(t, "Done", got, e, nil)
}

func TestFirstForAKeyThatIsNoGood(t *testing.T) {
	k := keysOf(11)
	for i, other := range smalls() {
		for _, text := range [][]byte{nil, []byte("one")} {
			h := noise.Start([]byte("p"), k.starter, other, k.starterOnce)
			stops(t, fmt.Sprint("other ", i), *h, (*noise.Hand).First, text, api.ErrKey)
		}
	}
}

// It is told ahead of what no seal is right about, but behind what has no form.
func TestHearOfAKeyThatIsNoGood(t *testing.T) {
	k := keysOf(12)
	x, _ := k.start(nil).First([]byte("one"))
	for i, seen := range smalls() {
		what := fmt.Sprint("R ", i)
		stops(t, what, *k.answer(nil), (*noise.Hand).Hear, slices.Concat(seen[:], x[32:]), api.ErrKey)
		stops(t, what, *k.answer(nil), (*noise.Hand).Hear, slices.Concat(seen[:], make([]byte, 64)), api.ErrKey)
		stops(t, what, *k.answer(nil), (*noise.Hand).Hear, slices.Concat(seen[:], make([]byte, 63)), api.ErrForm)

		// R with a secret of 0 mixed in, as who skips the error would.
		p := newPlain(nil, curve.Public(k.answerer))
		p.MixHash(seen[:])
		p.MixKey(make([]byte, 32))
		static := curve.Public(k.starter)
		sealed := p.seal(static[:])
		p.dh(k.answerer, static)
		stops(t, what, *k.answer(nil), (*noise.Hand).Hear, slices.Concat(seen[:], sealed, p.seal(nil)), api.ErrKey)
	}
}

// Who is speaking says that it has a key that is no good; what stands behind it may be right or not.
func TestHearOfAnOtherOneThatIsNoGood(t *testing.T) {
	k := keysOf(13)
	answerer := curve.Public(k.answerer)
	for i, static := range smalls() {
		what := fmt.Sprint("S ", i)
		p := newPlain(nil, answerer)
		told := p.public(k.starterOnce)
		p.dh(k.starterOnce, answerer)
		told = append(told, p.seal(static[:])...)
		p.MixKey(make([]byte, 32))
		right := slices.Concat(told, p.seal([]byte("one")))
		stops(t, what, *k.answer(nil), (*noise.Hand).Hear, right, api.ErrKey)
		stops(t, what, *k.answer(nil), (*noise.Hand).Hear, slices.Concat(told, make([]byte, 16)), api.ErrKey)
		stops(t, what, *k.answer(nil), (*noise.Hand).Hear, right[:95], api.ErrForm)
		stops(t, what, *k.answer(nil), (*noise.Hand).Hear, samples.Flipped(right, 8*79), api.ErrSeal)
	}
}

func TestDoneOfAKeyThatIsNoGood(t *testing.T) {
	k := keysOf(14)
	a, b := k.start(nil), k.answer(nil)
	x, _ := a.First(nil)
	b.Hear(x)
	y, _ := b.Second([]byte("two"))
	for i, seen := range smalls() {
		what := fmt.Sprint("R ", i)
		stops(t, what, *a, (*noise.Hand).Done, slices.Concat(seen[:], y[32:]), api.ErrKey)
		stops(t, what, *a, (*noise.Hand).Done, slices.Concat(seen[:], make([]byte, 16)), api.ErrKey)
		stops(t, what, *a, (*noise.Hand).Done, slices.Concat(seen[:], make([]byte, 15)), api.ErrForm)
	}
	got, e := a.Done(y)
	answers(t, "Done", got, e, []byte("two"))
}

// Who says to be another one, without that one's own key, is not believed, but who has S right up to there.
func TestWhoSaysToBeAnotherOne(t *testing.T) {
	k, other := keysOf(15), keysOf(16)
	answerer := curve.Public(k.answerer)
	p := newPlain(nil, answerer)
	told := p.first(other.starter, k.starterOnce, curve.Public(k.starter), answerer, []byte("one"))
	stops(t, "another one", *k.answer(nil), (*noise.Hand).Hear, told, api.ErrSeal)
	p = newPlain(nil, answerer)
	told = p.first(k.starter, k.starterOnce, curve.Public(k.starter), answerer, []byte("one"))
	got, e := k.answer(nil).Hear(told)
	answers(t, "the one itself", got, e, []byte("one"))
}

// A key's highest bit makes another text of it, but no other secret: whoever says S with it is that S.
func TestAKeyIsWhatItsBytesAre(t *testing.T) {
	k := keysOf(17)
	answerer, static := curve.Public(k.answerer), curve.Public(k.starter)
	static[31] |= 128
	p := newPlain(nil, answerer)
	x := p.first(k.starter, k.starterOnce, static, answerer, []byte("one"))
	b := k.answer(nil)
	got, e := b.Hear(x)
	answers(t, "Hear", got, e, []byte("one"))
	areSame(t, "Other", b.Other(), static)
	got, e = b.Second([]byte("two"))
	answers(t, "Second", got, e, p.second(k.answererOnce, curve.Public(k.starterOnce), static, []byte("two")))
}
