package noise_test

import (
	"fmt"
	"slices"
	"strings"
	"testing"

	"hatchway/api"
	"hatchway/cipher"
	"hatchway/curve"
	"hatchway/noise"
)

// call is one of those that a hand has, with the error that it has if it is the step that comes next.
type call struct {
	name string
	do   func(h *noise.Hand) ([]byte, api.Errno)
	want []byte
	e    api.Errno
}

// script is a hand, how it is to go, and what it is handed and answers there.
type script struct {
	steps []string
	calls []call
	other []api.Key // by how many steps it has gone
	ends  ends
}

// with answers the call of a hand with b.
func with(name string, b []byte) func(h *noise.Hand) ([]byte, api.Errno) {
	return func(h *noise.Hand) ([]byte, api.Errno) {
		switch name {
		case "First":
			return h.First(b)
		case "Hear":
			return h.Hear(b)
		case "Second":
			return h.Second(b)
		}
		return h.Done(b)
	}
}

// scripts answers both hands, and what they must do, as the chapter's words tell it.
func scripts() (*noise.Hand, script, *noise.Hand, script) {
	k := keysOf(3)
	prologue, one, two := []byte("prologue"), []byte("one"), []byte("two")
	starter, answerer := curve.Public(k.starter), curve.Public(k.answerer)
	p := newPlain(prologue, answerer)
	x := p.first(k.starter, k.starterOnce, starter, answerer, one)
	y := p.second(k.answererOnce, curve.Public(k.starterOnce), starter, two)
	m, n := p.Split()
	calls := []call{
		{"First", with("First", one), x, api.OK},
		{"Hear", with("Hear", x), one, api.OK},
		{"Hear", with("Hear", x[:95]), nil, api.ErrForm},
		{"Second", with("Second", two), y, api.OK},
		{"Done", with("Done", y), two, api.OK},
		{"Done", with("Done", x), nil, api.ErrSeal},
	}
	ofStarter := script{[]string{"First", "Done"}, calls, []api.Key{answerer, answerer, answerer}, ends{m, n, p.Hash}}
	ofAnswerer := script{[]string{"Hear", "Second"}, calls, []api.Key{{}, starter, starter}, ends{n, m, p.Hash}}
	return k.start(prologue), ofStarter, k.answer(prologue), ofAnswerer
}

// state is where a hand is: how many steps it has gone, and whether one of its calls had an error.
type state struct {
	gone    int
	stopped bool
}

// check fails, unless the hand has what it must have there.
func (s script) check(t *testing.T, path []string, h *noise.Hand, at state) {
	t.Helper()
	what := strings.Join(path, ", ")
	areSame(t, what+": Other", h.Other(), s.other[at.gone])
	for range 2 {
		if at.stopped || at.gone < len(s.steps) {
			isStopped(t, what, h)
		} else {
			areSame(t, what+": Split", split(t, what, h), s.ends)
		}
	}
}

// all goes each row of that many calls more, and asks for Split between them.
func (s script) all(t *testing.T, path []string, h noise.Hand, at state, more int) {
	t.Helper()
	s.check(t, path, &h, at)
	if more == 0 {
		return
	}
	for _, c := range s.calls {
		other, behind := h, at
		name := append(slices.Clone(path), c.name)
		got, e := c.do(&other)
		switch {
		case at.stopped || at.gone == len(s.steps) || s.steps[at.gone] != c.name:
			refuses(t, strings.Join(name, ", "), got, e, api.ErrState)
			behind.stopped = true
		case c.e != api.OK:
			refuses(t, strings.Join(name, ", "), got, e, c.e)
			behind.stopped = true
		default:
			answers(t, strings.Join(name, ", "), got, e, c.want)
			behind.gone++
		}
		s.all(t, name, other, behind, more-1)
	}
}

// Each row of five calls, from both sides: what is not due is refused, and so is all behind it.
func TestTheOrder(t *testing.T) {
	a, ofStarter, b, ofAnswerer := scripts()
	ofStarter.all(t, []string{"Start"}, *a, state{}, 5)
	ofAnswerer.all(t, []string{"Answer"}, *b, state{}, 5)
}

// The rows that the chapter names, without a copy of a hand.
func TestEachStepOnce(t *testing.T) {
	a, ofStarter, b, ofAnswerer := scripts()
	x, y := agree(t, "both", a, b, []byte("one"), []byte("two"))
	areSame(t, "who started", split(t, "who started", a), ofStarter.ends)
	areSame(t, "who answered", split(t, "who answered", b), ofAnswerer.ends)

	got, e := a.Done(y)
	refuses(t, "Done again", got, e, api.ErrState)
	isStopped(t, "Done again", a)
	got, e = b.Hear(x)
	refuses(t, "Hear again", got, e, api.ErrState)
	isStopped(t, "Hear again", b)
}

// Who is not due stops the hand, though it had an error of no other kind.
func TestACallThatIsNotDueStopsTheHand(t *testing.T) {
	a, ofStarter, b, ofAnswerer := scripts()
	for _, c := range []struct {
		hand  *noise.Hand
		calls []call
		names string
	}{
		{a, ofStarter.calls, "Hear Second Done"},
		{b, ofAnswerer.calls, "First Second Done"},
	} {
		for _, wrong := range c.calls {
			if !strings.Contains(c.names, wrong.name) {
				continue
			}
			h := *c.hand
			got, e := wrong.do(&h)
			refuses(t, wrong.name, got, e, api.ErrState)
			for _, behind := range c.calls {
				got, e := behind.do(&h)
				refuses(t, fmt.Sprint(behind.name, " behind ", wrong.name), got, e, api.ErrState)
				isStopped(t, behind.name, &h)
			}
		}
	}
}

// Split asks, and changes nothing: neither too early, nor again.
func TestSplitChangesNothing(t *testing.T) {
	a, ofStarter, b, ofAnswerer := scripts()
	for range 3 {
		isStopped(t, "at first", a)
		isStopped(t, "at first", b)
	}
	x, _ := a.First([]byte("one"))
	isStopped(t, "behind First", a)
	b.Hear(x)
	isStopped(t, "behind Hear", b)
	y, _ := b.Second([]byte("two"))
	got, e := a.Done(y)
	answers(t, "Done", got, e, []byte("two"))
	for range 3 {
		m, n := split(t, "who started", a), split(t, "who answered", b)
		areSame(t, "who started", m, ofStarter.ends)
		areSame(t, "who answered", n, ofAnswerer.ends)
		// The ciphers are the caller's: what is done with them counts for no other ones.
		m.send.Seal(nil, nil)
		m.hear.Rekey()
		n.send = cipher.Cipher{}
	}
}

// Nobody made these: they have nothing to say.
func TestAHandThatNobodyMade(t *testing.T) {
	_, s, _, _ := scripts()
	for _, c := range s.calls {
		var h noise.Hand
		isStopped(t, "a zero hand", &h)
		areSame(t, "Other of a zero hand", h.Other(), api.Key{})
		got, e := c.do(&h)
		refuses(t, c.name+" of a zero hand", got, e, api.ErrState)
	}
}
