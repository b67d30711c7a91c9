package noise

import (
	"testing"

	"hatchway/api"
	"hatchway/curve"
	"hatchway/samples"
)

// Hear lets no key in that Second would refuse: that it refuses them all the same can be seen from inside alone.
func TestSecondForAKeyThatIsNoGood(t *testing.T) {
	own, other := api.Key{1}, api.Key{2}
	x, _ := Start(nil, own, curve.Public(other), api.Key{3}).First(nil)
	for i, key := range samples.Smalls() {
		for _, part := range []func(s *side) *api.Key{
			func(s *side) *api.Key { return &s.seen },
			func(s *side) *api.Key { return &s.other },
		} {
			h := Answer(nil, other, api.Key{4})
			h.Hear(x)
			*part(&h.side) = key
			if got, e := h.Second([]byte("two")); len(got) != 0 || e != api.ErrKey || h.next != stopped {
				t.Errorf("key %d: got %x, %d, next %d", i, got, e, h.next)
			}
		}
	}
}

// Whatever else goes wrong in a step stops the hand, and nothing of the step is left.
func TestNoFaultGetsOut(t *testing.T) {
	for _, fault := range []any{"a text", 7, api.Key{}, error(nil)} {
		h := Start(nil, api.Key{1}, curve.Public(api.Key{2}), api.Key{3})
		before := h.side
		got, e := h.take(first, func(s *side) []byte {
			s.MixHash([]byte("half"))
			panic(fault)
		})
		if len(got) != 0 || e != api.ErrState || h.next != stopped || h.side != before {
			t.Errorf("%v: got %x, %d, next %d", fault, got, e, h.next)
		}
	}
}
