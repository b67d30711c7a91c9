package field_test

import (
	"bytes"
	"crypto/sha256"
	"encoding/hex"
	"fmt"
	"math/big"
	"slices"
	"testing"

	"hatchway/api"
	"hatchway/field"
	"hatchway/samples"
)

// reckoned is an element, and the number that it should be.
type reckoned struct {
	elem field.Elem
	want *big.Int
}

// power answers 2^n.
func power(n uint) *big.Int {
	return new(big.Int).Lsh(big.NewInt(1), n)
}

// prime answers P, as the chapter writes it.
func prime() *big.Int {
	return new(big.Int).Sub(power(255), big.NewInt(19))
}

// near answers n and, with it, off.
func near(n *big.Int, off int64) *big.Int {
	return new(big.Int).Add(n, big.NewInt(off))
}

// least answers n modulo P, from 0 on.
func least(n *big.Int) *big.Int {
	return new(big.Int).Mod(n, prime())
}

// keyOf answers the bytes of a number below 2^256, the lowest first.
func keyOf(n *big.Int) api.Key {
	b := n.FillBytes(make([]byte, 32))
	slices.Reverse(b)
	return api.Key(b)
}

// numberOf answers what all bits of the bytes tell, the lowest byte first.
func numberOf(key api.Key) *big.Int {
	b := bytes.Clone(key[:])
	slices.Reverse(b)
	return new(big.Int).SetBytes(b)
}

// decimal answers the number of a text to base ten.
func decimal(t *testing.T, text string) *big.Int {
	t.Helper()
	n, ok := new(big.Int).SetString(text, 10)
	if !ok {
		t.Fatalf("%s is no number", text)
	}
	return n
}

// elemOf answers the element of a number, which may be below 0 or above P.
func elemOf(n *big.Int) field.Elem {
	return field.From(keyOf(least(n)))
}

// mixed answers the element of mixed bytes.
func mixed(seed uint32) field.Elem {
	return field.From(samples.Key(seed))
}

// told answers an element to base sixteen, the lowest byte first.
func told(x field.Elem) string {
	b := x.Bytes()
	return hex.EncodeToString(b[:])
}

// same tells whether two elements are, by their Bytes: == says nothing.
func same(x, y field.Elem) bool {
	return x.Bytes() == y.Bytes()
}

// is fails, unless the element is the one of the number.
func is(t *testing.T, what string, got field.Elem, want *big.Int) {
	t.Helper()
	if got.Bytes() != keyOf(least(want)) {
		t.Errorf("%s: got %s, want %x", what, told(got), keyOf(least(want)))
	}
}

// isHex fails, unless the element is told so.
func isHex(t *testing.T, what string, got field.Elem, want string) {
	t.Helper()
	if told(got) != want {
		t.Errorf("%s: got %s, want %s", what, told(got), want)
	}
}

// areSame fails, unless both elements are the same.
func areSame(t *testing.T, what string, got, want field.Elem) {
	t.Helper()
	if !same(got, want) {
		t.Errorf("%s: got %s, want %s", what, told(got), told(want))
	}
}

// edges answers numbers of 255 bits next to 0, to P, to the highest one, and to the powers of two at which digits or words may end.
func edges() []*big.Int {
	all := []*big.Int{}
	for off := int64(-2); off <= 2; off++ {
		for _, n := range []uint{8, 16, 25, 26, 32, 51, 52, 64, 102, 128, 153, 192, 204, 205, 254} {
			all = append(all, near(power(n), off))
		}
		all = append(all, near(prime(), off), big.NewInt(off+2), big.NewInt(off+19), big.NewInt(off+38))
	}
	return append(all, near(power(255), -1), near(power(255), -2), near(power(255), -18))
}

// stripes answers numbers whose digits, of 51 bits, have all bits or none.
func stripes() []*big.Int {
	all := []*big.Int{}
	for which := range 32 {
		n := new(big.Int)
		for i := range 5 {
			if which>>i&1 == 1 {
				n.Or(n, new(big.Int).Lsh(near(power(51), -1), uint(51*i)))
			}
		}
		all = append(all, n)
	}
	return all
}

// plain answers elements just as From makes them.
func plain() []reckoned {
	all := []reckoned{}
	for _, n := range slices.Concat(edges(), stripes()) {
		all = append(all, reckoned{field.From(keyOf(n)), n})
	}
	for seed := range uint32(10) {
		n := numberOf(samples.Key(seed))
		all = append(all, reckoned{field.From(keyOf(n)), n.SetBit(n, 255, 0)})
	}
	return all
}

// worked answers elements that sums, differences and products made, of such as lie at the edges.
func worked() []reckoned {
	top := reckoned{field.From(api.Key(bytes.Repeat([]byte{255}, 32))), near(power(255), -1)}
	all := []reckoned{}
	for _, n := range stripes() {
		x := reckoned{field.From(keyOf(n)), n}
		all = append(all, add(x, top), sub(x, top), sub(top, x), mul(x, top), add(add(x, top), top), sub(sub(x, top), top))
	}
	return all
}

// add, sub and mul reckon with the elements and, by another way, with their numbers.
func add(x, y reckoned) reckoned {
	return reckoned{x.elem.Add(y.elem), least(new(big.Int).Add(x.want, y.want))}
}

func sub(x, y reckoned) reckoned {
	return reckoned{x.elem.Sub(y.elem), least(new(big.Int).Sub(x.want, y.want))}
}

func mul(x, y reckoned) reckoned {
	return reckoned{x.elem.Mul(y.elem), least(new(big.Int).Mul(x.want, y.want))}
}

// zeros answers elements that are 0, made in many ways.
func zeros() []field.Elem {
	x, p := mixed(1), field.From(keyOf(prime()))
	less := field.From(keyOf(near(prime(), -1)))
	return []field.Elem{
		{}, field.From(api.Key{}), field.From(api.Key{31: 0x80}), field.Small(0), p, p.Add(p), p.Sub(p), p.Mul(p),
		x.Sub(x), x.Add(field.Elem{}.Sub(x)), x.Mul(p), p.Mul(x), less.Add(field.Small(1)), field.Small(1).Add(less),
		field.From(keyOf(near(power(255), -1))).Sub(field.Small(18)), p.Sub(field.Elem{}), field.Elem{}.Sub(p),
	}
}

// some answers few elements of all sorts, to be put together in threes.
func some() []field.Elem {
	x := mixed(3)
	return []field.Elem{
		{}, field.Small(1), field.Small(1<<32 - 1), field.From(keyOf(prime())), field.From(keyOf(near(prime(), -1))),
		field.From(keyOf(near(power(255), -1))), field.From(keyOf(near(power(204), -1))), mixed(1), mixed(2),
		x.Add(x).Sub(mixed(4)), x.Mul(x), x.Inv(),
	}
}

func TestFromOfKnownBytes(t *testing.T) {
	full := api.Key(bytes.Repeat([]byte{255}, 32))
	for _, c := range []struct {
		what     string
		in, want api.Key
	}{
		{"0", api.Key{}, api.Key{}},
		{"1", api.Key{1}, api.Key{1}},
		{"the lowest byte is the first", api.Key{1, 2, 30: 3, 31: 4}, api.Key{1, 2, 30: 3, 31: 4}},
		{"P less 2", keyOf(near(prime(), -2)), keyOf(near(prime(), -2))},
		{"P less 1", keyOf(near(prime(), -1)), keyOf(near(prime(), -1))},
		{"P", keyOf(prime()), api.Key{}},
		{"P and 1", keyOf(near(prime(), 1)), api.Key{1}},
		{"P and 2", keyOf(near(prime(), 2)), api.Key{2}},
		{"P and 17", keyOf(near(prime(), 17)), api.Key{17}},
		{"the highest of 255 bits", keyOf(near(power(255), -1)), api.Key{18}},
		{"2^255", keyOf(power(255)), api.Key{}},
		{"2^255 and 1", keyOf(near(power(255), 1)), api.Key{1}},
		{"2^255 and P less 1", keyOf(near(power(256), -20)), keyOf(near(prime(), -1))},
		{"2^255 and P", keyOf(near(power(256), -19)), api.Key{}},
		{"2 P", keyOf(near(power(256), -38)), keyOf(near(prime(), -19))},
		{"the highest of 32 bytes", full, api.Key{18}},
		{"2^254", keyOf(power(254)), keyOf(power(254))},
	} {
		if got := field.From(c.in).Bytes(); got != c.want {
			t.Errorf("%s: got %x, want %x", c.what, got, c.want)
		}
	}
}

// P's own bytes are written down here, so that they hang on nothing.
func TestFromOfPIsZero(t *testing.T) {
	var p api.Key
	copy(p[:], samples.Hex("edffffffffffffffffffffffffffffffffffffffffffffffffffffffffffff7f"))
	if got := field.From(p).Bytes(); got != (api.Key{}) {
		t.Errorf("got %x", got)
	}
	p[0]--
	if got := field.From(p).Bytes(); got != p {
		t.Errorf("one less: got %x", got)
	}
}

func TestEachNumberNextToPAndTheHighest(t *testing.T) {
	for off := int64(-60); off <= 18; off++ {
		n := near(prime(), off)
		is(t, fmt.Sprint("P and ", off), field.From(keyOf(n)), n)
	}
}

func TestEachBitOfTheBytesCounts(t *testing.T) {
	doubled := field.Small(1)
	for bit := range uint(255) {
		one := field.From(keyOf(power(bit)))
		if one.Bytes() != keyOf(power(bit)) {
			t.Errorf("bit %d: got %s", bit, told(one))
		}
		areSame(t, fmt.Sprint("bit ", bit, " doubled from 1 on"), doubled, one)
		doubled = doubled.Add(doubled)
		others := field.From(keyOf(near(power(bit), -1)))
		is(t, fmt.Sprint("all bits below ", bit), others, near(power(bit), -1))
	}
	isHex(t, "2^255", doubled, "1300000000000000000000000000000000000000000000000000000000000000")
}

func TestTheHighestBitCountsAsZero(t *testing.T) {
	keys := []api.Key{{}, {31: 0x7f}, keyOf(prime()), keyOf(near(prime(), -1)), keyOf(near(power(255), -1))}
	for seed := range uint32(100) {
		keys = append(keys, samples.Key(seed))
	}
	for _, key := range keys {
		with, without := key, key
		with[31] |= 0x80
		without[31] &= 0x7f
		want := numberOf(without)
		is(t, fmt.Sprintf("%x with it", key), field.From(with), want)
		is(t, fmt.Sprintf("%x without it", key), field.From(without), want)
	}
}

func TestBytesAreTheLeastAndToldAgain(t *testing.T) {
	for _, x := range slices.Concat(plain(), worked()) {
		key := x.elem.Bytes()
		if numberOf(key).Cmp(prime()) >= 0 {
			t.Errorf("%x: it is not less than P", key)
		}
		is(t, "it", x.elem, x.want)
		if again := field.From(key).Bytes(); again != key {
			t.Errorf("%x became %x", key, again)
		}
	}
}

func TestSmall(t *testing.T) {
	for n, want := range map[uint32]api.Key{
		0:          {},
		1:          {1},
		2:          {2},
		9:          {9},
		255:        {255},
		256:        {0, 1},
		121665:     {0x41, 0xdb, 1},
		1 << 31:    {3: 0x80},
		0x12345678: {0x78, 0x56, 0x34, 0x12},
		1<<32 - 2:  {254, 255, 255, 255},
		1<<32 - 1:  {255, 255, 255, 255},
	} {
		if got := field.Small(n).Bytes(); got != want {
			t.Errorf("%d: got %x, want %x", n, got, want)
		}
	}
	for bit := range 32 {
		is(t, fmt.Sprint("bit ", bit), field.Small(1<<bit), power(uint(bit)))
	}
	isHex(t, "the highest by itself", field.Small(1<<32-1).Mul(field.Small(1<<32-1)),
		"01000000feffffff000000000000000000000000000000000000000000000000")
}

// The answers are what Python tells of the elements of the seed and of 100 more.
func TestSumsDifferencesAndProductsOfKnownElements(t *testing.T) {
	for _, c := range []struct {
		seed               uint32
		sum, less, product string
	}{
		{1, "567f1d76e9700d86cd527bf43af93c1307efc978943995ff70111c8ecad62908",
			"d158e0a224bf8730fea2e576e8245a70d4192dfa7da51ffbbdd1abe57eede74c",
			"3efe61260d80d22c3c215a533dfe7fd6b22d9f462d884e3cc6d851e0a333521f"},
		{2, "4f4f044a2667a32367b3c8e16cf36eab160df302acc56ff90b1d8ab2e5e69959",
			"d158e1a224bf8630fda2e576e8245970d3192dfa7ea41efbbcd2aae57eede74b",
			"bf971f463a68090b6f3719818704a109034671f2bab783121671e83ad8b8141b"},
		{3, "6c1feb1d645f3bc1001816d0a0eea042272b1b8ec3514cf5a527f6d602f60a29",
			"be58e0a225bf8730fea2e777e8255a6fd3192ef97da51ffbbcd2abe57eece84c",
			"31894402c888e653166ae87af5f405015cdd1801fcca3713d8a757e1bb7bcf63"},
		{4, "65efd1f19f55d15e997a63bed4e8d1d8364a4218d9de27ef413364fc1e067b78",
			"be58e1a224bf8630fea2e576e825586fd41a2ef97ea51ffbbcd1aae47fece84b",
			"c45d8dc47e9af7538eb3cd81eddf469bdd205987713360553e8059afe13a522b"},
	} {
		x, y := mixed(c.seed), mixed(c.seed+100)
		isHex(t, fmt.Sprint("sum ", c.seed), x.Add(y), c.sum)
		isHex(t, fmt.Sprint("difference ", c.seed), x.Sub(y), c.less)
		isHex(t, fmt.Sprint("product ", c.seed), x.Mul(y), c.product)
	}
}

// What Python tells of many elements, as one sum over all of them.
func TestManyElements(t *testing.T) {
	all := sha256.New()
	write := func(x field.Elem) {
		b := x.Bytes()
		all.Write(b[:])
	}
	for s := range uint32(200) {
		x := mixed(s)
		for other := range uint32(20) {
			y := mixed(200 + other)
			write(x.Add(y))
			write(x.Sub(y))
			write(y.Sub(x))
			write(x.Mul(y))
		}
		write(x.Inv())
	}
	if got := hex.EncodeToString(all.Sum(nil)); got != "c6401975fe0dc86d3dff78add607359281e197fbde1758486e093a5800b47804" {
		t.Errorf("got %s", got)
	}
}

func TestZeroOneAndPLessOne(t *testing.T) {
	minus := "ecffffffffffffffffffffffffffffffffffffffffffffffffffffffffffff7f"
	minusTwo := "ebffffffffffffffffffffffffffffffffffffffffffffffffffffffffffff7f"
	number := func(n byte) string {
		return hex.EncodeToString(append([]byte{n}, make([]byte, 31)...))
	}
	one, less := field.Small(1), field.From(keyOf(near(prime(), -1)))
	for i, zero := range zeros() {
		isHex(t, fmt.Sprint("zero ", i), zero, number(0))
		for _, c := range []struct {
			what string
			got  field.Elem
			want string
		}{
			{"0 + 0", zero.Add(zero), number(0)}, {"0 - 0", zero.Sub(zero), number(0)}, {"0 * 0", zero.Mul(zero), number(0)},
			{"0 + 1", zero.Add(one), number(1)}, {"0 - 1", zero.Sub(one), minus}, {"0 * 1", zero.Mul(one), number(0)},
			{"1 + 0", one.Add(zero), number(1)}, {"1 - 0", one.Sub(zero), number(1)}, {"1 * 0", one.Mul(zero), number(0)},
			{"0 + -1", zero.Add(less), minus}, {"0 - -1", zero.Sub(less), number(1)}, {"0 * -1", zero.Mul(less), number(0)},
			{"-1 + 0", less.Add(zero), minus}, {"-1 - 0", less.Sub(zero), minus}, {"-1 * 0", less.Mul(zero), number(0)},
		} {
			isHex(t, fmt.Sprint(c.what, " with zero ", i), c.got, c.want)
		}
	}
	isHex(t, "1 + 1", one.Add(one), number(2))
	isHex(t, "1 - 1", one.Sub(one), number(0))
	isHex(t, "1 * 1", one.Mul(one), number(1))
	isHex(t, "1 + -1", one.Add(less), number(0))
	isHex(t, "-1 + 1", less.Add(one), number(0))
	isHex(t, "1 - -1", one.Sub(less), number(2))
	isHex(t, "-1 - 1", less.Sub(one), minusTwo)
	isHex(t, "1 * -1", one.Mul(less), minus)
	isHex(t, "-1 * 1", less.Mul(one), minus)
	isHex(t, "-1 + -1", less.Add(less), minusTwo)
	isHex(t, "-1 - -1", less.Sub(less), number(0))
	isHex(t, "-1 * -1", less.Mul(less), number(1))
}

func TestElementsAtTheEdgesWithEachOther(t *testing.T) {
	all := slices.Concat(plain(), worked())
	for i, x := range all {
		for j, y := range all {
			for what, z := range map[string]reckoned{"sum": add(x, y), "difference": sub(x, y), "product": mul(x, y)} {
				is(t, fmt.Sprint(what, " of ", i, " and ", j), z.elem, z.want)
			}
		}
	}
}

func TestAnElementWithItself(t *testing.T) {
	for i, x := range slices.Concat(plain(), worked()) {
		is(t, fmt.Sprint("sum ", i), x.elem.Add(x.elem), new(big.Int).Lsh(x.want, 1))
		is(t, fmt.Sprint("difference ", i), x.elem.Sub(x.elem), new(big.Int))
		is(t, fmt.Sprint("product ", i), x.elem.Mul(x.elem), new(big.Int).Mul(x.want, x.want))
	}
}

func TestDifferencesThatGoBelowZero(t *testing.T) {
	for i, x := range slices.Concat(plain(), worked()) {
		is(t, fmt.Sprint("0 less ", i), field.Elem{}.Sub(x.elem), new(big.Int).Neg(x.want))
		more := x.elem.Add(field.Small(1))
		is(t, fmt.Sprint(i, " less one more"), x.elem.Sub(more), big.NewInt(-1))
	}
	for n := range uint32(60) {
		is(t, fmt.Sprint("3 less ", n), field.Small(3).Sub(field.Small(n)), big.NewInt(3-int64(n)))
	}
	is(t, "0 less the highest", field.Small(0).Sub(field.Small(1<<32-1)), big.NewInt(1-1<<32))
}

// What follows is what Python tells; there is no Bytes ahead of the end.
func TestElementsThatWereReckonedLong(t *testing.T) {
	a, b, c := mixed(1), mixed(2), mixed(3)
	for range 20000 {
		a, b, c = b.Add(c), c.Sub(a), a.Mul(b)
	}
	isHex(t, "walk, a", a, "baf8cc2c1fee45174ce660cf554fd4b9b2a885e06b69924c020d849fef37a40d")
	isHex(t, "walk, b", b, "6077959ae7973c9c00ff88c73f773579669b7ea89fb8b3981d4bc18ff3fb8201")
	isHex(t, "walk, c", c, "1daa7c20614741bde1e14db1fecbc4088273520ef5845282aa67245484fbfa09")

	x := mixed(4)
	sum, less, product := x, field.Elem{}, x
	for range 10000 {
		sum, less, product = sum.Add(x), less.Sub(x), product.Mul(x)
	}
	isHex(t, "sums", sum, "08c9f497daa90178f386ae56d7e68419dfb6eda3409af4394f15e11d6ba84c62")
	isHex(t, "differences", less, "00db64b28760aa4fd807f6438720908aa67bca64eb272f3b306da652e450e53f")
	isHex(t, "products", product, "7affb7e11be49c46a06d2a817ec64a42e46f54a4f1bc156fa502d42b96c9c555")

	a, b = mixed(5), mixed(6)
	c, d := mixed(5), mixed(6)
	for range 10000 {
		a, b = b, a.Add(b)
		c, d = d, c.Sub(d)
	}
	isHex(t, "sums of the last two", b, "ce9e3b2280b2a3728343122d650d68f2e13bf66fdc104c3b32c048931568d229")
	isHex(t, "differences of the last two", d, "87f58357fc12e940d1d7de9de613f30495fe25d34a09fdca0866648189e6c00d")

	two := field.Small(2)
	for range 1000 {
		two = two.Mul(two)
	}
	isHex(t, "2, squared again and again", two, "2cf927dcdf9d1ef20bf99dadc16696c7c58d3f699cc8e3a449964c27b2d88c25")
}

// step does, as the bits of by say, one of many things with three elements.
func step(by byte, x, y, z reckoned) reckoned {
	switch by % 8 {
	case 0:
		return add(x, y)
	case 1:
		return sub(x, y)
	case 2:
		return mul(x, y)
	case 3:
		return sub(y, x)
	case 4:
		return add(add(x, y), add(y, z))
	case 5:
		return sub(sub(z, x), sub(y, z))
	case 6:
		return mul(add(x, z), sub(x, z))
	default:
		return sub(mul(x, x), mul(y, z))
	}
}

func TestLongWalksFromTheEdges(t *testing.T) {
	starts := slices.Concat(plain(), worked())
	for i, x := range starts {
		y, z := starts[(i*7+3)%len(starts)], starts[(i*31+11)%len(starts)]
		for _, by := range samples.Mixed(300, uint32(i)) {
			x, y, z = y, z, step(by, x, y, z)
		}
		for _, end := range []reckoned{x, y, z} {
			is(t, fmt.Sprint("walk ", i), end.elem, end.want)
		}
	}
}

// Many of one kind in a row, from where the digits have all their bits: what is too much must not heap up.
func TestManyStepsOfOneKind(t *testing.T) {
	for i, from := range slices.Concat(plain(), worked()) {
		top := reckoned{field.From(keyOf(near(power(255), -1))), near(power(255), -1)}
		for kind, do := range map[string]func(x reckoned) reckoned{
			"doubled":      func(x reckoned) reckoned { return add(x, x) },
			"more":         func(x reckoned) reckoned { return add(x, top) },
			"less":         func(x reckoned) reckoned { return sub(x, top) },
			"taken away":   func(x reckoned) reckoned { return sub(top, x) },
			"squared":      func(x reckoned) reckoned { return mul(x, x) },
			"times":        func(x reckoned) reckoned { return mul(x, top) },
			"more, times":  func(x reckoned) reckoned { return mul(add(x, top), add(x, x)) },
			"less, times":  func(x reckoned) reckoned { return mul(sub(x, top), sub(top, x)) },
			"less of less": func(x reckoned) reckoned { return sub(sub(x, top), sub(top, x)) },
		} {
			x := from
			for range 70 {
				x = do(x)
			}
			is(t, fmt.Sprint(kind, " from ", i), x.elem, x.want)
		}
	}
}

// The answers to 2, 3, 19 and so on are what Python tells; d is RFC 8032's, and the last one RFC 7748's base point there.
func TestInvOfKnownElements(t *testing.T) {
	for n, want := range map[uint32]string{
		0:         "0000000000000000000000000000000000000000000000000000000000000000",
		1:         "0100000000000000000000000000000000000000000000000000000000000000",
		2:         "f7ffffffffffffffffffffffffffffffffffffffffffffffffffffffffffff3f",
		3:         "4955555555555555555555555555555555555555555555555555555555555555",
		19:        "14ca6b28afa1bc86f21aca6b28afa1bc86f21aca6b28afa1bc86f21aca6b282f",
		121665:    "a9073632890d1fdad1ab86bd6729a2f499304632ebdee9d4bc312aeb2d816f3f",
		121666:    "a4785913ca4deb75abd841414d0a700098e879777940c78c73fe6f2bee6c0352",
		486662:    "57223f32d02940ec1bf16d19078cb2dbed73303350938328b1930bace71bcc78",
		1<<32 - 1: "997583299f7583299f7583299f7583299f7583299f7583299f7583299f758329",
	} {
		isHex(t, fmt.Sprint(n), field.Small(n).Inv(), want)
	}
	for seed, want := range map[uint32]string{
		1: "8084eb2154299abd406408ac0943c7abe4621864986c08a8327dd51e5f000d24",
		2: "d40a96ae9824ae64582e9502502e9b08801bbdc38b72a2357460ff2569030b4d",
		3: "94de6cb10f115c32b4a00141b670807dc365469aee43455ffbeeacb84dac2a16",
		4: "3d44b81209416f49ab11c1a9799fdd124846cb3c1fd366ed930597a584852069",
	} {
		isHex(t, fmt.Sprint("seed ", seed), mixed(seed).Inv(), want)
	}
	d := field.Elem{}.Sub(field.Small(121665)).Mul(field.Small(121666).Inv())
	is(t, "d", d, decimal(t, "37095705934669439343138083508754565189542113879843219016388785533085940283555"))
	y := field.Small(4).Mul(field.Small(5).Inv())
	is(t, "4 by 5", y, decimal(t, "46316835694926478169428394003475163141307993866256225615783033603165251855960"))
}

func TestInvOfZeroIsZero(t *testing.T) {
	for i, zero := range zeros() {
		is(t, fmt.Sprint("zero ", i), zero.Inv(), new(big.Int))
	}
}

func TestTheProductWithInvIsOne(t *testing.T) {
	all := slices.Concat(plain(), worked())
	for seed := range uint32(200) {
		n := numberOf(samples.Key(seed))
		all = append(all, reckoned{mixed(seed), n.SetBit(n, 255, 0)})
	}
	for i, x := range all {
		inv := x.elem.Inv()
		want := new(big.Int)
		if least(x.want).Sign() > 0 {
			want.ModInverse(least(x.want), prime())
			is(t, fmt.Sprint(i, " by itself"), x.elem.Mul(inv), big.NewInt(1))
			is(t, fmt.Sprint(i, " by itself, turned"), inv.Mul(x.elem), big.NewInt(1))
		}
		is(t, fmt.Sprint(i), inv, want)
		areSame(t, fmt.Sprint(i, ", twice"), inv.Inv(), x.elem)
	}
	is(t, "P less 1", field.From(keyOf(near(prime(), -1))).Inv(), big.NewInt(-1))
}

func TestSwap(t *testing.T) {
	for i, x := range some() {
		for j, y := range some() {
			a, b := field.Swap(true, x, y)
			areSame(t, fmt.Sprint("swapped, first of ", i, " and ", j), a, y)
			areSame(t, fmt.Sprint("swapped, second of ", i, " and ", j), b, x)
			a, b = field.Swap(true, a, b)
			areSame(t, fmt.Sprint("swapped back, first of ", i, " and ", j), a, x)
			areSame(t, fmt.Sprint("swapped back, second of ", i, " and ", j), b, y)
			a, b = field.Swap(false, x, y)
			areSame(t, fmt.Sprint("left, first of ", i, " and ", j), a, x)
			areSame(t, fmt.Sprint("left, second of ", i, " and ", j), b, y)
		}
	}
}

func TestAZeroElemIsZero(t *testing.T) {
	var zero field.Elem
	x := mixed(1)
	isHex(t, "it", zero, "0000000000000000000000000000000000000000000000000000000000000000")
	areSame(t, "with it", x.Add(zero), x)
	areSame(t, "behind it", zero.Add(x), x)
	areSame(t, "less it", x.Sub(zero), x)
	areSame(t, "times it", x.Mul(zero), zero)
	areSame(t, "its Inv", zero.Inv(), zero)
	a, b := field.Swap(true, zero, x)
	areSame(t, "swapped, first", a, x)
	areSame(t, "swapped, second", b, zero)
}

func TestSumsAndProductsOfTwoGoTogether(t *testing.T) {
	for i, a := range some() {
		for j, b := range some() {
			what := fmt.Sprint(i, " and ", j, ": ")
			areSame(t, what+"order of a sum", a.Add(b), b.Add(a))
			areSame(t, what+"order of a product", a.Mul(b), b.Mul(a))
			areSame(t, what+"put there, and taken away", a.Add(b).Sub(b), a)
			areSame(t, what+"taken away, and put there", a.Sub(b).Add(b), a)
			areSame(t, what+"order of a difference", a.Sub(b), field.Elem{}.Sub(b.Sub(a)))
			areSame(t, what+"sum and difference", a.Add(b).Mul(a.Sub(b)), a.Mul(a).Sub(b.Mul(b)))
			areSame(t, what+"a sum squared", a.Add(b).Mul(a.Add(b)), a.Mul(a).Add(a.Mul(b)).Add(a.Mul(b)).Add(b.Mul(b)))
			areSame(t, what+"signs of a product", field.Elem{}.Sub(a).Mul(b), field.Elem{}.Sub(a.Mul(b)))
			areSame(t, what+"Inv of a product", a.Mul(b).Inv(), a.Inv().Mul(b.Inv()))
			if !same(b, field.Elem{}) {
				areSame(t, what+"a product taken apart", a.Mul(b).Mul(b.Inv()), a)
			}
		}
	}
}

func TestSumsAndProductsOfThreeGoTogether(t *testing.T) {
	for i, a := range some() {
		for j, b := range some() {
			for k, c := range some() {
				what := fmt.Sprint(i, ", ", j, " and ", k, ": ")
				areSame(t, what+"brackets of a sum", a.Add(b).Add(c), a.Add(b.Add(c)))
				areSame(t, what+"brackets of a product", a.Mul(b).Mul(c), a.Mul(b.Mul(c)))
				areSame(t, what+"product of a sum", a.Mul(b.Add(c)), a.Mul(b).Add(a.Mul(c)))
				areSame(t, what+"product of a difference", a.Mul(b.Sub(c)), a.Mul(b).Sub(a.Mul(c)))
				areSame(t, what+"a difference taken away", a.Sub(b.Sub(c)), a.Sub(b).Add(c))
				areSame(t, what+"a sum taken away", a.Sub(b.Add(c)), a.Sub(b).Sub(c))
			}
		}
	}
}

func TestAProductIsASumOfManyTimes(t *testing.T) {
	for _, x := range some() {
		sum := field.Elem{}
		for n := range uint32(200) {
			areSame(t, fmt.Sprint(n, " times"), x.Mul(field.Small(n)), sum)
			sum = sum.Add(x)
		}
	}
}

// Both numbers are known: what is 2 to the power (P - 1) / 4, and the second half of RFC 7748's base point.
func TestRootsThatAreKnown(t *testing.T) {
	root := elemOf(decimal(t, "19681161376707505956807079304988542015446066515923890162744021073123829784752"))
	is(t, "the root of -1, squared", root.Mul(root), big.NewInt(-1))
	u := field.Small(9)
	v := elemOf(decimal(t, "14781619447589544791020593568409986887264606134616475288964881837755586237401"))
	is(t, "v, squared", v.Mul(v), big.NewInt(9*9*9+486662*9*9+9))
	areSame(t, "the curve", v.Mul(v), u.Mul(u).Mul(u).Add(field.Small(486662).Mul(u).Mul(u)).Add(u))
}

// multiple goes the way of RFC 7748, section 5, so that some thousands of sums, differences and products hang on each other.
func multiple(k, u api.Key) api.Key {
	k[0] &= 248
	k[31] = k[31]&127 | 64
	base := field.From(u)
	x2, z2, x3, z3 := field.Small(1), field.Elem{}, base, field.Small(1)
	for bit := 254; bit >= 0; bit-- {
		is := k[bit/8]>>(bit%8)&1 == 1
		x2, x3 = field.Swap(is, x2, x3)
		z2, z3 = field.Swap(is, z2, z3)
		a, b, c, d := x2.Add(z2), x2.Sub(z2), x3.Add(z3), x3.Sub(z3)
		aa, bb, da, cb := a.Mul(a), b.Mul(b), d.Mul(a), c.Mul(b)
		e := aa.Sub(bb)
		x3, z3 = da.Add(cb), da.Sub(cb)
		x3, z3 = x3.Mul(x3), base.Mul(z3.Mul(z3))
		x2, z2 = aa.Mul(bb), e.Mul(aa.Add(field.Small(121665).Mul(e)))
		x2, x3 = field.Swap(is, x2, x3)
		z2, z3 = field.Swap(is, z2, z3)
	}
	return x2.Mul(z2.Inv()).Bytes()
}

// The keys are those of RFC 7748, section 5.2; the second one's u has its highest bit.
func TestAWayOfThousandsOfSteps(t *testing.T) {
	for _, c := range []struct{ k, u, want string }{
		{"a546e36bf0527c9d3b16154b82465edd62144c0ac1fc5a18506a2244ba449ac4",
			"e6db6867583030db3594c1a424b15f7c726624ec26b3353b10a903a6d0ab1c4c",
			"c3da55379de9c6908e94ea4df28d084f32eccf03491c71f754b4075577a28552"},
		{"4b66e9d4d1b4673c5ad22691957d6af5c11b6421e0ea01d42ca4169e7918ba0d",
			"e5210f12786811d3f4b7959d0538ae2c31dbe7106fc03c3efc4cd549c715a493",
			"95cbde9476e8907d7aade45cb4b873f88b595a68799fa152e6f8f7647aac7957"},
	} {
		got := multiple(api.Key(samples.Hex(c.k)), api.Key(samples.Hex(c.u)))
		if hex.EncodeToString(got[:]) != c.want {
			t.Errorf("%s: got %x, want %s", c.k, got, c.want)
		}
	}
	k, u := api.Key{9}, api.Key{9}
	for i := range 1000 {
		k, u = multiple(k, u), k
		if want := "422c8e7a6227d7bca1350b3e2bb7279f7897b87bb6854b783c60e80311ae3079"; i == 0 && hex.EncodeToString(k[:]) != want {
			t.Fatalf("once: got %x, want %s", k, want)
		}
	}
	if want := "684cf59ba83309552800ef566f2f4d3c1c3887c49360e3875f2eb94d99532c51"; hex.EncodeToString(k[:]) != want {
		t.Errorf("a thousand times: got %x, want %s", k, want)
	}
}

// What was handed in is held against itself as it was, all of it: that is more than its Bytes.
func TestWhatIsHandedInStaysAsItWas(t *testing.T) {
	for i, x := range some() {
		for j, y := range some() {
			wasX, wasY := x, y
			wantX, wantY := x.Bytes(), y.Bytes()
			x.Add(y)
			x.Sub(y)
			x.Mul(y)
			x.Inv()
			x.Bytes()
			field.Swap(true, x, y)
			field.Swap(false, x, y)
			if x != wasX || y != wasY || x.Bytes() != wantX || y.Bytes() != wantY {
				t.Errorf("%d and %d became %s and %s", i, j, told(x), told(y))
			}
		}
	}
	key := samples.Key(1)
	x := field.From(key)
	if key != samples.Key(1) {
		t.Errorf("the bytes became %x", key)
	}
	clear(key[:])
	areSame(t, "behind bytes that were written over", x, mixed(1))
}

func TestAnAnswerIsTheCallers(t *testing.T) {
	x, y := mixed(1), mixed(2)
	b := x.Bytes()
	clear(b[:])
	areSame(t, "what was told", x, mixed(1))
	sum, product := x.Add(y), x.Mul(y)
	wantSum, wantProduct := sum.Bytes(), product.Bytes()
	a, c := field.Swap(true, x, y)
	x, y = field.Elem{}, field.Elem{}
	areSame(t, "swapped, first", a, mixed(2))
	areSame(t, "swapped, second", c, mixed(1))
	if sum.Bytes() != wantSum || product.Bytes() != wantProduct {
		t.Error("answers hang on what was handed in")
	}
}

func TestTheSameCallsHaveTheSameAnswers(t *testing.T) {
	all := func() string {
		out := ""
		for _, x := range some() {
			for _, y := range some() {
				a, b := field.Swap(true, x, y)
				out += told(x.Add(y)) + told(x.Sub(y)) + told(x.Mul(y)) + told(x.Inv()) + told(a) + told(b)
			}
		}
		return out
	}
	want := all()
	for seed := range uint32(10) {
		// Calls between them must not count.
		mixed(seed).Mul(mixed(seed + 1)).Inv().Bytes()
		if all() != want {
			t.Fatalf("behind %d other calls they are others", seed)
		}
	}
}
