package curve_test

import (
	"bytes"
	"crypto/ecdh"
	"crypto/sha256"
	"encoding/hex"
	"fmt"
	"slices"
	"testing"

	"hatchway/api"
	"hatchway/curve"
	"hatchway/samples"
)

// Alice and Bob, their public keys and their secret: RFC 7748, section 6.1.
const (
	aliceOwn    = "77076d0a7318a57d3c16c17251b26645df4c2f87ebc0992ab177fba51db92c2a"
	alicePublic = "8520f0098930a754748b7ddcb43ef75a0dbf3a0d26381af4eba4a98eaa9b4e6a"
	bobOwn      = "5dab087e624a8a4b79e17f8b83800ee66f3bb1292618b6fd1c2f8b27ff88e0eb"
	bobPublic   = "de9edb7d7b7dc1b4d35b61c2ece435373f8343c85b78674dadfc7e146f882b4f"
	theirSecret = "4a5d9d5ba4ce2de1728e3bf480350f25e07e21c947d19e3376f09b3c1e161742"
)

// keyOf answers the key of a text to base sixteen.
func keyOf(text string) api.Key {
	return api.Key(samples.Hex(text))
}

// full answers the key all of whose bits are 1.
func full() api.Key {
	return api.Key(bytes.Repeat([]byte{255}, 32))
}

// prime answers P and off, which is from -237 to 18.
func prime(off int) api.Key {
	u := full()
	u[0], u[31] = byte(237+off), 127
	return u
}

// flipped answers the key with one other bit.
func flipped(key api.Key, bit int) api.Key {
	return api.Key(samples.Flipped(key[:], bit))
}

// edges answers u at the edges that are of no small order; some have the highest bit.
func edges() []api.Key {
	return []api.Key{
		{2}, {3}, {4}, {9}, {18}, {19}, {255}, {1: 1}, {15: 128}, {16: 1}, {31: 64}, {31: 127},
		prime(-20), prime(-19), prime(-18), prime(-3), prime(-2), prime(2), prime(3), prime(9), prime(17), prime(18),
		{2, 31: 128}, {9, 31: 128}, full(), flipped(prime(-20), 255), flipped(prime(-2), 255),
	}
}

// keys answers k of all sorts: at the edges, those of few bits, and mixed ones.
func keys() []api.Key {
	all := []api.Key{{}, {1}, {7}, {8}, {31: 64}, {31: 128}, {31: 255}, full(), flipped(full(), 3), flipped(full(), 253)}
	return append(all, mixed()...)
}

// mixed answers keys without a plain order: as u, they are of no small order.
func mixed() []api.Key {
	all := []api.Key{}
	for seed := range uint32(15) {
		all = append(all, samples.Key(seed))
	}
	return all
}

// is fails, unless the key is the one that is wanted, to base sixteen.
func is(t *testing.T, what string, got api.Key, want string) {
	t.Helper()
	if hex.EncodeToString(got[:]) != want {
		t.Errorf("%s: got %x, want %s", what, got, want)
	}
}

// areSame fails, unless both keys are the same.
func areSame(t *testing.T, what string, got, want api.Key) {
	t.Helper()
	if got != want {
		t.Errorf("%s: got %x, want %x", what, got, want)
	}
}

// isShared fails, unless Shared answers the secret, and OK.
func isShared(t *testing.T, what string, k, u, want api.Key) {
	t.Helper()
	if got, e := curve.Shared(k, u); got != want || e != api.OK {
		t.Errorf("%s: got %x and %d, want %x", what, got, e, want)
	}
}

// isRefused fails, unless Shared answers ErrKey, and 0 beside it.
func isRefused(t *testing.T, what string, k, u api.Key) {
	t.Helper()
	if got, e := curve.Shared(k, u); got != (api.Key{}) || e != api.ErrKey {
		t.Errorf("%s: got %x and %d", what, got, e)
	}
}

// library answers what Go's own library tells of k and u, which refuses what is 0.
func library(t *testing.T, k, u api.Key) api.Key {
	t.Helper()
	own, err := ecdh.X25519().NewPrivateKey(k[:])
	if err != nil {
		t.Fatal(err)
	}
	other, err := ecdh.X25519().NewPublicKey(u[:])
	if err != nil {
		t.Fatal(err)
	}
	secret, err := own.ECDH(other)
	if err != nil {
		return api.Key{}
	}
	return api.Key(secret)
}

func TestMultOfZeroIsZero(t *testing.T) {
	for i, k := range keys() {
		areSame(t, fmt.Sprint("key ", i), curve.Mult(k, api.Key{}), api.Key{})
	}
}

// RFC 7748, section 5.2. Of the first k the highest bit is 1, of the second one the second highest 0, of both some of the lowest three are 1; the second u has its highest bit.
func TestMultOfKnownKeys(t *testing.T) {
	for _, c := range []struct{ k, u, want string }{
		{"a546e36bf0527c9d3b16154b82465edd62144c0ac1fc5a18506a2244ba449ac4",
			"e6db6867583030db3594c1a424b15f7c726624ec26b3353b10a903a6d0ab1c4c",
			"c3da55379de9c6908e94ea4df28d084f32eccf03491c71f754b4075577a28552"},
		{"4b66e9d4d1b4673c5ad22691957d6af5c11b6421e0ea01d42ca4169e7918ba0d",
			"e5210f12786811d3f4b7959d0538ae2c31dbe7106fc03c3efc4cd549c715a493",
			"95cbde9476e8907d7aade45cb4b873f88b595a68799fa152e6f8f7647aac7957"},
	} {
		is(t, c.k, curve.Mult(keyOf(c.k), keyOf(c.u)), c.want)
		isShared(t, c.k+", shared", keyOf(c.k), keyOf(c.u), keyOf(c.want))
	}
}

// RFC 7748, section 5.2: what comes is the next k, and what was k is the next u.
func TestMultAgainAndAgain(t *testing.T) {
	known := map[int]string{
		1:    "422c8e7a6227d7bca1350b3e2bb7279f7897b87bb6854b783c60e80311ae3079",
		1000: "684cf59ba83309552800ef566f2f4d3c1c3887c49360e3875f2eb94d99532c51",
	}
	k, u := api.Key{9}, api.Key{9}
	for i := range 1000 {
		k, u = curve.Mult(k, u), k
		if want, ok := known[i+1]; ok {
			is(t, fmt.Sprint(i+1, " times"), k, want)
		}
	}
}

// What Python tells, by sums of points with both their numbers, as OpenSSL does.
func TestMultAtTheEdgesOfK(t *testing.T) {
	for _, c := range []struct {
		what string
		k, u api.Key
		want string
	}{
		{"no bits, 2", api.Key{}, api.Key{2}, "1bfd8c01d2fe9fca58ae61ab792b0a68feebfc17a2e95068d12fa5007a519541"},
		{"no bits, 9", api.Key{}, api.Key{9}, "2fe57da347cd62431528daac5fbb290730fff684afc4cfc2ed90995f58cb3b74"},
		{"no bits, P less 2", api.Key{}, prime(-2), "62734de0a77165c7d13e93cae3e6055fe35e1e0c03a1a867d081fe8cc91a235a"},
		{"no bits, mixed", api.Key{}, samples.Key(3), "c35bfe013789514009a5b688663ea195efbd889e80af36e954292c3a51828974"},
		{"all bits, 2", full(), api.Key{2}, "5a7fe7f6160ee72b67c6434d69c72e5a7fcd1d6770bcbf23df70510bb1169650"},
		{"all bits, 9", full(), api.Key{9}, "847c0d2c375234f365e660955187a3735a0f7613d1609d3a6a4d8c53aeaa5a22"},
		{"all bits, P less 2", full(), prime(-2), "5c2cc57e180aabc35b96586f294dff95ddab59a0f10cba62afcfe99d847e5b2a"},
		{"all bits, mixed", full(), samples.Key(3), "427f371e674fa2938a349fbf5e0d07273084c8d4e05c0fc7c2e6b156ae131b7c"},
	} {
		is(t, c.what, curve.Mult(c.k, c.u), c.want)
	}
}

// What Python tells, too; k is always the same.
func TestMultAtTheEdgesOfU(t *testing.T) {
	const (
		zero   = "0000000000000000000000000000000000000000000000000000000000000000"
		less20 = "a66a414351f783c224755d09a48900a77cd59f0c2dfea03b41e6432394447420"
		less19 = "b312791694ed195153d6b470abd1094df5277b44bc42b34b00a0d7effc84ba02"
		less18 = "4c05baf520219afc3d165619ec748347d9d072bb88b87439a7b0b51c73f0682d"
		ofTwo  = "723c061a8dd12048fdc85228f52847c732546cd4011954c7e6c6e63f9b7c975e"
		of18   = "c7fb276c983f8210eee2bd6df099b37e1ccede2b8d1db03dce583139a8231708"
	)
	for _, c := range []struct {
		what string
		u    api.Key
		want string
	}{
		{"0", api.Key{}, zero},
		{"1", api.Key{1}, zero},
		{"2", api.Key{2}, ofTwo},
		{"3", api.Key{3}, "979369c2375a309317945d450777c735a4e56423d22514d56c6933a23cd8fd26"},
		{"4", api.Key{4}, "8fd2484765902aa3cd2153da750a7b8ee31c844b06f64da97be20667517a2f1a"},
		{"18", api.Key{18}, of18},
		{"P less 20", prime(-20), less20},
		{"P less 19", prime(-19), less19},
		{"P less 18", prime(-18), less18},
		{"P less 3", prime(-3), "f547c604e01f252af1fac3611be2fb8fc39e0b40aa06baf9bf0c985abc1b7d43"},
		{"P less 2", prime(-2), "72d38c274b039d32e536173b82f51382d577e0faf2651b76426e5f49884fce6b"},
		{"P less 1", prime(-1), zero},
		{"P", prime(0), zero},
		{"P and 1", prime(1), zero},
		{"P and 2", prime(2), ofTwo},
		{"the highest of 255 bits", prime(18), of18},
		{"2^254", api.Key{31: 64}, "87fd2d04a1fd60c7a45deae143d7263c6480b1551a5d07f78d8269c610f0e20c"},
		// Here the highest bit tells 2 P from P: as it counts as 0, these are of no small order.
		{"2 P less 1", flipped(prime(-20), 255), less20},
		{"2 P", flipped(prime(-19), 255), less19},
		{"2 P and 1", flipped(prime(-18), 255), less18},
		{"2^255 and 2", api.Key{2, 31: 128}, ofTwo},
		{"all bits", full(), of18},
	} {
		is(t, c.what, curve.Mult(samples.Key(1), c.u), c.want)
	}
}

func TestMultAsGosLibraryTellsIt(t *testing.T) {
	for i, k := range keys() {
		for j, u := range slices.Concat(samples.Smalls(), edges(), keys()) {
			areSame(t, fmt.Sprint("key ", i, ", u ", j), curve.Mult(k, u), library(t, k, u))
		}
	}
}

// What Python tells, by sums of points with both their numbers, as one sum over all of them.
func TestMultOfManyKeys(t *testing.T) {
	all := sha256.New()
	for seed := range uint32(300) {
		got := curve.Mult(samples.Key(seed), samples.Key(1000+seed))
		all.Write(got[:])
	}
	if got := hex.EncodeToString(all.Sum(nil)); got != "3b0d7ec8846a875e89a9a5b7b697b8b4579c959b1c3a42653a334180c60cb13a" {
		t.Errorf("got %s", got)
	}
}

func TestFiveBitsOfKDoNotCount(t *testing.T) {
	for i, k := range keys() {
		u := samples.Key(uint32(i) + 100)
		k[0] &= 248
		k[31] = k[31]&63 | 64
		want := curve.Mult(k, u)
		public := curve.Public(k)
		for bits := range byte(32) {
			other := k
			other[0] |= bits & 7
			other[31] = other[31]&63 | bits>>3<<6
			areSame(t, fmt.Sprint("key ", i, ", bits ", bits), curve.Mult(other, u), want)
			areSame(t, fmt.Sprint("key ", i, ", bits ", bits, ", public"), curve.Public(other), public)
			isShared(t, fmt.Sprint("key ", i, ", bits ", bits, ", shared"), other, u, want)
		}
	}
}

// countEach fails, unless each bit from first to last, turned round, tells something else than all others, and than plain.
func countEach(t *testing.T, what string, plain api.Key, first, last int, tell func(bit int) api.Key) {
	t.Helper()
	seen := map[api.Key]string{plain: "none"}
	for bit := first; bit <= last; bit++ {
		got := tell(bit)
		if other, ok := seen[got]; ok {
			t.Errorf("%s: bit %d counts as %s", what, bit, other)
		}
		seen[got] = fmt.Sprint("bit ", bit)
	}
}

func TestAllOtherBitsOfKCount(t *testing.T) {
	for i, k := range []api.Key{{}, full(), samples.Key(1)} {
		for j, u := range []api.Key{{9}, {2}, samples.Key(3)} {
			tell := func(bit int) api.Key { return curve.Mult(flipped(k, bit), u) }
			countEach(t, fmt.Sprint("key ", i, ", u ", j), curve.Mult(k, u), 3, 253, tell)
		}
	}
}

func TestAllBitsOfUCountButTheHighest(t *testing.T) {
	for i, u := range slices.Concat(samples.Smalls(), edges(), keys()) {
		k := samples.Key(uint32(i))
		areSame(t, fmt.Sprint("u ", i), curve.Mult(k, flipped(u, 255)), curve.Mult(k, u))
	}
	for i, u := range []api.Key{{9}, samples.Key(4), samples.Key(5)} {
		k := samples.Key(6)
		tell := func(bit int) api.Key { return curve.Mult(k, flipped(u, bit)) }
		countEach(t, fmt.Sprint("u ", i), curve.Mult(k, u), 0, 254, tell)
	}
}

// From P on, u is as what is left of it.
func TestUIsTakenModuloP(t *testing.T) {
	for off := range 19 {
		for seed := range uint32(5) {
			k, plain := samples.Key(seed), api.Key{byte(off)}
			areSame(t, fmt.Sprint("P and ", off), curve.Mult(k, prime(off)), curve.Mult(k, plain))
		}
	}
}

func TestPublicOfKnownKeys(t *testing.T) {
	is(t, "Alice", curve.Public(keyOf(aliceOwn)), alicePublic)
	is(t, "Bob", curve.Public(keyOf(bobOwn)), bobPublic)
	is(t, "9", curve.Public(api.Key{9}), "422c8e7a6227d7bca1350b3e2bb7279f7897b87bb6854b783c60e80311ae3079")
	is(t, "no bits", curve.Public(api.Key{}), "2fe57da347cd62431528daac5fbb290730fff684afc4cfc2ed90995f58cb3b74")
	is(t, "all bits", curve.Public(full()), "847c0d2c375234f365e660955187a3735a0f7613d1609d3a6a4d8c53aeaa5a22")
	is(t, "mixed", curve.Public(samples.Key(1)), "938976a5324d883efee8091ecec389b07763cf921ec9199e02ee68fb47d28b3a")
}

func TestPublicIsMultOfNine(t *testing.T) {
	for i, k := range keys() {
		areSame(t, fmt.Sprint("key ", i), curve.Public(k), curve.Mult(k, api.Key{9}))
		own, err := ecdh.X25519().NewPrivateKey(k[:])
		if err != nil {
			t.Fatal(err)
		}
		areSame(t, fmt.Sprint("key ", i, ", as Go's library tells it"), curve.Public(k), api.Key(own.PublicKey().Bytes()))
	}
}

func TestSharedOfKnownKeys(t *testing.T) {
	isShared(t, "Alice's side", keyOf(aliceOwn), keyOf(bobPublic), keyOf(theirSecret))
	isShared(t, "Bob's side", keyOf(bobOwn), keyOf(alicePublic), keyOf(theirSecret))
}

func TestSharedRefusesWhatComesToZero(t *testing.T) {
	for i, u := range samples.Smalls() {
		for j, k := range keys() {
			isRefused(t, fmt.Sprint("u ", i, ", key ", j), k, u)
			isRefused(t, fmt.Sprint("u ", i, " with its highest bit, key ", j), k, flipped(u, 255))
			areSame(t, fmt.Sprint("u ", i, ", key ", j), curve.Mult(k, u), api.Key{})
		}
	}
}

func TestSharedIsMultOfAllOthers(t *testing.T) {
	for i, k := range keys() {
		for j, u := range slices.Concat(edges(), mixed()) {
			want := curve.Mult(k, u)
			if want == (api.Key{}) {
				t.Errorf("key %d, u %d: it is 0", i, j)
			}
			isShared(t, fmt.Sprint("key ", i, ", u ", j), k, u, want)
		}
	}
}

// Next to those that are refused are others, a bit away.
func TestSharedTakesWhatIsABitAway(t *testing.T) {
	k := samples.Key(7)
	for i, u := range samples.Smalls() {
		for bit := range 255 {
			other := flipped(u, bit)
			if slices.Contains(samples.Smalls(), other) {
				continue
			}
			isShared(t, fmt.Sprint("u ", i, ", bit ", bit), k, other, library(t, k, other))
		}
	}
}

func TestBothHaveTheSameSecret(t *testing.T) {
	seen := map[api.Key]int{}
	for i := range 300 {
		one, two := samples.Key(uint32(i)), samples.Key(uint32(i)+5000)
		secret, e := curve.Shared(one, curve.Public(two))
		if e != api.OK || secret == (api.Key{}) {
			t.Errorf("pair %d: got %x and %d", i, secret, e)
		}
		isShared(t, fmt.Sprint("pair ", i, ", the other side"), two, curve.Public(one), secret)
		if other, ok := seen[secret]; ok {
			t.Errorf("pair %d has the secret of pair %d", i, other)
		}
		seen[secret] = i
	}
}

func TestBothHaveTheSameSecretOfKeysAtTheEdges(t *testing.T) {
	for i, one := range keys() {
		for j, two := range keys() {
			secret, e := curve.Shared(one, curve.Public(two))
			if e != api.OK {
				t.Errorf("%d and %d: got %d", i, j, e)
			}
			isShared(t, fmt.Sprint(j, " and ", i), two, curve.Public(one), secret)
		}
	}
}

// Whatever u is, not 9 alone: also where no public key lies.
func TestMultsGoTogether(t *testing.T) {
	for i, u := range slices.Concat(samples.Smalls(), edges(), keys()) {
		one, two := samples.Key(uint32(i)+200), samples.Key(uint32(i)+300)
		areSame(t, fmt.Sprint("u ", i), curve.Mult(one, curve.Mult(two, u)), curve.Mult(two, curve.Mult(one, u)))
	}
}

func TestWhatIsHandedInStaysAsItWas(t *testing.T) {
	for i, u := range slices.Concat(samples.Smalls(), edges()) {
		// All bits: those of k that do not count are 1, too.
		k, was := full(), u
		curve.Mult(k, u)
		curve.Public(k)
		curve.Shared(k, u)
		if k != full() || u != was {
			t.Errorf("u %d: they became %x and %x", i, k, u)
		}
	}
	same := samples.Key(8)
	curve.Mult(same, same)
	curve.Shared(same, same)
	areSame(t, "both at once", same, samples.Key(8))
}

func TestAnAnswerIsTheCallers(t *testing.T) {
	k, u := samples.Key(9), samples.Key(10)
	mult, public := curve.Mult(k, u), curve.Public(k)
	for range 3 {
		a, b := curve.Mult(k, u), curve.Public(k)
		c, e := curve.Shared(k, u)
		areSame(t, "Mult", a, mult)
		areSame(t, "Public", b, public)
		areSame(t, fmt.Sprint("Shared, with ", e), c, mult)
		clear(a[:])
		clear(b[:])
		clear(c[:])
	}
}

func TestTheSameCallsHaveTheSameAnswers(t *testing.T) {
	all := func() string {
		out := ""
		for i, u := range slices.Concat(samples.Smalls(), edges()) {
			k := samples.Key(uint32(i))
			secret, e := curve.Shared(k, u)
			out += fmt.Sprintf("%x %x %x %d\n", curve.Mult(k, u), curve.Public(k), secret, e)
		}
		return out
	}
	want := all()
	for seed := range uint32(5) {
		// Calls between them must not count.
		curve.Shared(samples.Key(seed), api.Key{byte(seed)})
		curve.Public(samples.Key(seed + 1))
		if all() != want {
			t.Fatalf("behind %d other calls they are others", seed)
		}
	}
}
