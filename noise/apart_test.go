package noise_test

import (
	"bytes"
	"fmt"
	"testing"

	"hatchway/api"
	"hatchway/noise"
	"hatchway/samples"
)

// roomy answers n bytes with others behind them, that an append would write over.
func roomy(n int, seed uint32) []byte {
	return samples.Mixed(n+40, seed)[:n]
}

// invert turns all bits round, those behind b too.
func invert(b []byte) {
	whole := b[:cap(b)]
	for i := range whole {
		whole[i] ^= 0xff
	}
}

// lend hands roomy bytes to a call, fails unless all of them stay as they were, and turns them round behind it.
func lend(t *testing.T, what string, b []byte, call func(b []byte) ([]byte, api.Errno)) []byte {
	t.Helper()
	room := append(bytes.Clone(b), samples.Mixed(40, 9)...)[:len(b)]
	before := bytes.Clone(room[:cap(room)])
	got, e := call(room)
	areSame(t, what+": the error", e, api.OK)
	if !bytes.Equal(room[:cap(room)], before) {
		t.Errorf("%s wrote over what it was handed", what)
	}
	kept := bytes.Clone(got)
	invert(room)
	if !bytes.Equal(got, kept) {
		t.Errorf("%s answered what it was handed", what)
	}
	// What was answered is the caller's.
	invert(got)
	return kept
}

func TestAHandKeepsNothingThatItIsHanded(t *testing.T) {
	for _, size := range lengths() {
		k, what := keysOf(20), fmt.Sprint(size, " bytes: ")
		one, two := samples.Mixed(size, 2), samples.Mixed(size, 3)
		c, d := k.start(samples.Mixed(size, 1)), k.answer(samples.Mixed(size, 1))
		agree(t, what, c, d, one, two)

		prologue := roomy(size, 1)
		a, b := k.start(prologue), k.answer(prologue)
		areSame(t, what+"the prologue", string(prologue[:cap(prologue)]), string(samples.Mixed(cap(prologue), 1)[:cap(prologue)]))
		invert(prologue)
		x := lend(t, what+"First", one, a.First)
		answers(t, what+"Hear", lend(t, what+"Hear", x, b.Hear), api.OK, one)
		y := lend(t, what+"Second", two, b.Second)
		answers(t, what+"Done", lend(t, what+"Done", y, a.Done), api.OK, two)
		areSame(t, what+"who started", split(t, what, a), split(t, what, c))
		areSame(t, what+"who answered", split(t, what, b), split(t, what, d))
	}
}

// What is refused stays as it was too.
func TestWhatIsRefusedStaysAsItWas(t *testing.T) {
	k := keysOf(21)
	for _, name := range []string{"First", "Hear", "Second", "Done"} {
		for _, size := range []int{0, 47, 48, 95, 96, 200} {
			started := k.start(nil)
			started.First(nil)
			for i, h := range []*noise.Hand{k.start(nil), started, k.answer(nil)} {
				b := roomy(size, 4)
				with(name, b)(h)
				if !bytes.Equal(b[:cap(b)], samples.Mixed(size+40, 4)) {
					t.Errorf("%s of hand %d, %d bytes: it wrote over them", name, i, size)
				}
			}
		}
	}
}

// Many hands whose steps go on between each other's.
func TestTwoHandsHaveNothingToDoWithEachOther(t *testing.T) {
	const n = 8
	type row struct {
		a, b *noise.Hand
		x, y []byte
	}
	var alone, between [n]row
	for i := range alone {
		k := keysOf(uint32(30 + i/2))
		alone[i] = row{a: k.start([]byte{byte(i)}), b: k.answer([]byte{byte(i)})}
		between[i] = row{a: k.start([]byte{byte(i)}), b: k.answer([]byte{byte(i)})}
		alone[i].x, alone[i].y = agree(t, "alone", alone[i].a, alone[i].b, []byte("one"), []byte("two"))
	}
	for i := range between {
		between[i].x, _ = between[i].a.First([]byte("one"))
		noise.Start(nil, api.Key{1}, api.Key{}, api.Key{2}).First(nil)
	}
	for i := range between {
		got, e := between[n-1-i].b.Hear(between[n-1-i].x)
		answers(t, "Hear", got, e, []byte("one"))
	}
	for i := range between {
		between[i].y, _ = between[i].b.Second([]byte("two"))
		stops(t, "another one's", *between[n-1].a, (*noise.Hand).Done, between[0].y, api.ErrSeal)
	}
	for i, r := range between {
		got, e := r.a.Done(r.y)
		answers(t, "Done", got, e, []byte("two"))
		answers(t, "First", r.x, api.OK, alone[i].x)
		answers(t, "Second", r.y, api.OK, alone[i].y)
		areSame(t, "who started", split(t, "between", r.a), split(t, "alone", alone[i].a))
		areSame(t, "who answered", split(t, "between", r.b), split(t, "alone", alone[i].b))
	}
}

// A hand that is copied goes on from there as often as it is copied, whatever was refused to others.
func TestACopyGoesOnByItself(t *testing.T) {
	k := keysOf(40)
	a, b := k.start(nil), k.answer(nil)
	x, _ := a.First(nil)
	b.Hear(x)
	y, _ := b.Second([]byte("two"))
	for range 3 {
		waits := *a
		stops(t, "what nobody told", waits, (*noise.Hand).Done, samples.Mixed(48, 1), api.ErrSeal)
		got, e := waits.Done(y)
		answers(t, "Done", got, e, []byte("two"))
		areSame(t, "the hash", split(t, "the copy", &waits).hash, split(t, "who answered", b).hash)
		isStopped(t, "who was copied", a)
	}
}

func TestTheSameCallsHaveTheSameAnswers(t *testing.T) {
	row := func() []byte {
		var all []byte
		for seed := range uint32(4) {
			k := keysOf(seed + 50)
			a, b := k.start([]byte("p")), k.answer([]byte("p"))
			x, y := agree(t, "again", a, b, []byte("one"), []byte("two"))
			got := split(t, "again", a)
			for _, told := range [][]byte{x, y, got.send.Key[:], got.hear.Key[:], got.hash[:]} {
				all = append(all, told...)
			}
			got2, _ := b.Hear(x)
			all = append(all, got2...)
		}
		return all
	}
	want := row()
	for range 4 {
		answers(t, "again", row(), api.OK, want)
	}
}
