package poly_test

import (
	"bytes"
	"encoding/hex"
	"math/big"
	"slices"
	"strings"
	"testing"

	"hatchway/api"
	"hatchway/poly"
	"hatchway/samples"
)

const (
	ietf  = "Any submission to the IETF intended by the Contributor for publication as all or part of an IETF Internet-Draft or RFC and any statement made within the context of an IETF activity is considered an \"IETF Contribution\". Such statements include oral statements in IETF sessions, as well as written and electronic communications made at any time or place, which are addressed to"
	toves = "'Twas brillig, and the slithy toves\nDid gyre and gimble in the wabe:\nAll mimsy were the borogoves,\nAnd the mome raths outgrabe."
)

// keyOf answers the key of R and S, that are short of 0s at their ends.
func keyOf(r, s string) api.Key {
	var key api.Key
	copy(key[:16], r)
	copy(key[16:], s)
	return key
}

// full is n bytes with all bits.
func full(n int) string {
	return strings.Repeat("\xff", n)
}

// power answers 2^n.
func power(n uint) *big.Int {
	return new(big.Int).Lsh(big.NewInt(1), n)
}

// prime answers 2^130 - 5.
func prime() *big.Int {
	return new(big.Int).Sub(power(130), big.NewInt(5))
}

// number answers what the bytes tell, the lowest first.
func number(b []byte) *big.Int {
	turned := bytes.Clone(b)
	slices.Reverse(turned)
	return new(big.Int).SetBytes(turned)
}

// multiplier answers R of a key: its bits one by one, but those that are taken as 0.
func multiplier(key api.Key) *big.Int {
	r := number(key[:16])
	for _, bit := range ignored() {
		r.SetBit(r, bit, 0)
	}
	return r
}

// ignored answers the bits of a key that are taken as 0.
func ignored() []int {
	var all []int
	for _, at := range []int{3, 7, 11, 15} {
		all = append(all, 8*at+4, 8*at+5, 8*at+6, 8*at+7)
	}
	for _, at := range []int{4, 8, 12} {
		all = append(all, 8*at, 8*at+1)
	}
	return all
}

// behind answers A behind all parts of b, as the chapter's words say it.
func behind(key api.Key, b []byte) *big.Int {
	a, r, p := new(big.Int), multiplier(key), prime()
	for part := range slices.Chunk(b, 16) {
		a.Add(a, number(append(bytes.Clone(part), 1)))
		a.Mul(a, r)
		a.Mod(a, p)
	}
	return a
}

// tagOf answers A and S, modulo 2^128, as bytes.
func tagOf(key api.Key, a *big.Int) [16]byte {
	sum := new(big.Int).Add(a, number(key[16:]))
	sum.Mod(sum, power(128))
	out := sum.FillBytes(make([]byte, 16))
	slices.Reverse(out)
	return [16]byte(out)
}

// check fails, unless Sum is what the chapter's words say.
func check(t *testing.T, what string, key api.Key, b []byte) {
	t.Helper()
	if got, want := poly.Sum(key, b), tagOf(key, behind(key, b)); got != want {
		t.Errorf("%s: key %x, bytes %x: got %x, want %x", what, key, b, got, want)
	}
}

// keys answers keys of all sorts: none, the greatest, those of one bit next to an edge, and mixed ones.
func keys() []api.Key {
	all := []api.Key{
		{},
		keyOf("\x01", ""),
		keyOf("\x02", full(16)),
		keyOf("\x05", "\x01"),
		keyOf(full(16), full(16)),
		keyOf(full(16), ""),
		keyOf("", full(16)),
		{15: 0x08, 31: 0x80},
		{15: 0x0f, 12: 0xfc},
	}
	for seed := range uint32(8) {
		all = append(all, samples.Key(seed))
	}
	return all
}

func TestSumOfKnownKeys(t *testing.T) {
	for _, c := range []struct {
		name, key string
		b         []byte
		want      string
	}{
		{"2.5.2", "85d6be7857556d337f4452fe42d506a8 0103808afb0db2fd4abff6af4149f51b",
			[]byte("Cryptographic Forum Research Group"), "a8061dc1305136c6c22b8baf0c0127a9"},
		{"2.8.2", "7bac2b252db447af09b67a55a4e95584 0ae1d6731075d9eb2a9375783ed553ff",
			samples.Hex("50515253c0c1c2c3c4c5c6c700000000" +
				"d31a8d34648e60db7b86afbc53ef7ec2a4aded51296e08fea9e2b5a736ee62d63dbea45e8ca9671282fafb69da92728b1a71de0a9e060b2905d6a5b67ecd3b3692ddbd7f2d778b8c9803aee328091b58fab324e4fad675945585808b4831d7bc3ff4def08e4b7a9de576d26586cec64b6116" +
				"0000000000000000000000000000" + "0c000000000000007200000000000000"),
			"1ae10b594f09e26a7e902ecbd0600691"},
		{"A.3, 1", "00", make([]byte, 64), "00000000000000000000000000000000"},
		{"A.3, 2", "00000000000000000000000000000000 36e5f6b5c5e06070f0efca96227a863e",
			[]byte(ietf), "36e5f6b5c5e06070f0efca96227a863e"},
		{"A.3, 3", "36e5f6b5c5e06070f0efca96227a863e", []byte(ietf), "f3477e7cd95417af89a6b8794c310cf0"},
		{"A.3, 4", "1c9240a5eb55d38af333888604f6b5f0 473917c1402b80099dca5cbc207075c0",
			[]byte(toves), "4541669a7eaaee61e708dc7cbcc5eb62"},
		{"A.3, 5", "02", []byte(full(16)), "03000000000000000000000000000000"},
		{"A.3, 6", "02000000000000000000000000000000 ffffffffffffffffffffffffffffffff",
			samples.Hex("02000000000000000000000000000000"), "03000000000000000000000000000000"},
		{"A.3, 7", "01",
			samples.Hex("ffffffffffffffffffffffffffffffff f0ffffffffffffffffffffffffffffff 11000000000000000000000000000000"),
			"05000000000000000000000000000000"},
		{"A.3, 8", "01",
			samples.Hex("ffffffffffffffffffffffffffffffff fbfefefefefefefefefefefefefefefe 01010101010101010101010101010101"),
			"00000000000000000000000000000000"},
		{"A.3, 9", "02", samples.Hex("fdffffffffffffffffffffffffffffff"), "faffffffffffffffffffffffffffffff"},
		{"A.3, 10", "01000000000000000400000000000000",
			samples.Hex("e33594d7505e43b90000000000000000 3394d7505e4379cd0100000000000000 00000000000000000000000000000000 01000000000000000000000000000000"),
			"14000000000000005500000000000000"},
		{"A.3, 11", "01000000000000000400000000000000",
			samples.Hex("e33594d7505e43b90000000000000000 3394d7505e4379cd0100000000000000 00000000000000000000000000000000"),
			"13000000000000000000000000000000"},
	} {
		var key api.Key
		copy(key[:], samples.Hex(c.key))
		if got := poly.Sum(key, c.b); hex.EncodeToString(got[:]) != c.want {
			t.Errorf("RFC 8439, %s: got %x, want %s", c.name, got, c.want)
		}
		// What the other tests are held against has to be right too.
		if want := tagOf(key, behind(key, c.b)); hex.EncodeToString(want[:]) != c.want {
			t.Errorf("RFC 8439, %s: the test's own way tells %x", c.name, want)
		}
	}
}

func TestOfNothingItIsS(t *testing.T) {
	for _, key := range keys() {
		for _, b := range [][]byte{nil, {}, make([]byte, 0, 32), samples.Mixed(32, 1)[:0]} {
			if got := poly.Sum(key, b); string(got[:]) != string(key[16:]) {
				t.Errorf("key %x: got %x", key, got)
			}
		}
	}
}

// The chapter's example; bits that are taken as 0 make no other key of it.
func TestOfAKeyWithoutRItIsS(t *testing.T) {
	for _, r := range []string{"", "\x00\x00\x00\xf0\x03\x00\x00\xf0\x03\x00\x00\xf0\x03\x00\x00\xf0"} {
		for seed := range uint32(4) {
			key := keyOf(r, string(samples.Mixed(16, seed)))
			for _, n := range []int{0, 1, 15, 16, 17, 32, 100, 1500} {
				for _, b := range [][]byte{samples.Mixed(n, seed), make([]byte, n), []byte(full(n))} {
					if got := poly.Sum(key, b); string(got[:]) != string(key[16:]) {
						t.Errorf("key %x, %d bytes: got %x", key, n, got)
					}
				}
			}
		}
	}
}

func TestSumOfAllLengths(t *testing.T) {
	for i, key := range keys() {
		for n := range 100 {
			check(t, "mixed", key, samples.Mixed(n, uint32(i)))
			check(t, "without bits", key, make([]byte, n))
			check(t, "with all bits", key, []byte(full(n)))
		}
		for _, n := range []int{255, 256, 257, 1000, 1500, 1<<16 + 3} {
			check(t, "many parts", key, samples.Mixed(n, uint32(i)))
			check(t, "many parts with all bits", key, []byte(full(n)))
		}
	}
}

// With R 1 and S 0 a part's tag is the part itself, and a 1 behind it where it is shorter than sixteen bytes.
func TestAShortPartHasAOneBehindIt(t *testing.T) {
	for n := range 16 {
		b := samples.Mixed(n, 9)
		var want [16]byte
		if n > 0 {
			copy(want[:], b)
			want[n] = 1
		}
		if got := poly.Sum(keyOf("\x01", ""), b); got != want {
			t.Errorf("%d bytes: got %x, want %x", n, got, want)
		}
	}
	sixteen := samples.Mixed(16, 9)
	if got := poly.Sum(keyOf("\x01", ""), sixteen); string(got[:]) != string(sixteen) {
		t.Errorf("sixteen bytes: got %x, want %x", got, sixteen)
	}
	if got := poly.Sum(keyOf("\x01", ""), append(make([]byte, 16), 7)); got != [16]byte{7, 1} {
		t.Errorf("one more: got %x", got)
	}
}

func TestZerosAtTheEndCount(t *testing.T) {
	for _, text := range []string{"", "a", "fifteen bytes..", "sixteen bytes...", "seventeen bytes.."} {
		seen := map[[16]byte]int{}
		for n := range 40 {
			tag := poly.Sum(samples.Key(3), append([]byte(text), make([]byte, n)...))
			if other, ok := seen[tag]; ok {
				t.Errorf("%q: %d zeros are as %d", text, n, other)
			}
			seen[tag] = n
		}
	}
}

func TestTheOrderOfPartsCounts(t *testing.T) {
	b := samples.Mixed(48, 5)
	turned := slices.Concat(b[16:32], b[:16], b[32:])
	if poly.Sum(samples.Key(5), b) == poly.Sum(samples.Key(5), turned) {
		t.Error("two parts may be changed for each other")
	}
}

func TestEachBitOfTheTextCounts(t *testing.T) {
	text := samples.Mixed(37, 6)
	seen := map[[16]byte]int{poly.Sum(samples.Key(6), text): -1}
	for bit := range 8 * len(text) {
		other := bytes.Clone(text)
		other[bit/8] ^= 1 << (bit % 8)
		tag := poly.Sum(samples.Key(6), other)
		if as, ok := seen[tag]; ok {
			t.Errorf("bit %d counts as bit %d", bit, as)
		}
		seen[tag] = bit
	}
}

func TestBitsOfTheKeyThatAreTakenAsZero(t *testing.T) {
	if len(ignored()) != 22 {
		t.Fatalf("there are %d", len(ignored()))
	}
	for _, key := range keys() {
		for _, b := range [][]byte{samples.Mixed(5, 2), samples.Mixed(16, 2), samples.Mixed(50, 2), []byte(full(48))} {
			want := poly.Sum(key, b)
			all := key
			for _, bit := range ignored() {
				one := key
				one[bit/8] ^= 1 << (bit % 8)
				all[bit/8] ^= 1 << (bit % 8)
				if poly.Sum(one, b) != want {
					t.Errorf("key %x: bit %d counts", key, bit)
				}
			}
			if poly.Sum(all, b) != want {
				t.Errorf("key %x: they count together", key)
			}
		}
	}
}

func TestEachOtherBitOfTheKeyCounts(t *testing.T) {
	for _, b := range [][]byte{samples.Mixed(5, 2), samples.Mixed(16, 2), samples.Mixed(50, 2)} {
		key := samples.Key(4)
		seen := map[[16]byte]int{poly.Sum(key, b): -1}
		for bit := range 256 {
			if slices.Contains(ignored(), bit) {
				continue
			}
			other := key
			other[bit/8] ^= 1 << (bit % 8)
			tag := poly.Sum(other, b)
			if as, ok := seen[tag]; ok {
				t.Errorf("of %d bytes: bit %d counts as bit %d", len(b), bit, as)
			}
			seen[tag] = bit
			check(t, "another bit", other, b)
		}
	}
}

// summing answers parts of sixteen bytes whose numbers, each with its 1 behind it, are together the number.
func summing(t *testing.T, parts int64, n *big.Int) []byte {
	t.Helper()
	rest := new(big.Int).Sub(n, new(big.Int).Mul(power(128), big.NewInt(parts)))
	most := new(big.Int).Sub(power(128), big.NewInt(1))
	var all []byte
	for range parts {
		part := new(big.Int).Set(rest)
		if part.Cmp(most) > 0 {
			part.Set(most)
		}
		rest.Sub(rest, part)
		if part.Sign() < 0 {
			t.Fatalf("%d parts are more than %d", parts, n)
		}
		b := part.FillBytes(make([]byte, 16))
		slices.Reverse(b)
		all = append(all, b...)
	}
	if rest.Sign() != 0 {
		t.Fatalf("%d parts are less than %d", parts, n)
	}
	return all
}

// With R 1 the numbers of the parts are added, so that A is laid just at the edge by hand.
func TestSumsAtTheEdgeOfThePrime(t *testing.T) {
	for _, s := range []string{"", "\x01", full(16), full(15) + "\x7f"} {
		key := keyOf("\x01", s)
		for off := int64(-40); off <= 40; off++ {
			n := new(big.Int).Add(prime(), big.NewInt(off))
			want := tagOf(key, new(big.Int).Mod(n, prime()))
			b := summing(t, 3, n)
			if got := poly.Sum(key, b); got != want {
				t.Errorf("2^130 - 5 and %d: got %x, want %x", off, got, want)
			}
			check(t, "a part behind it", key, append(b, 3))
			check(t, "a whole part behind it", key, append(b, full(16)...))
		}
	}
}

func TestSumsThatTwoPartsReach(t *testing.T) {
	key := keyOf("\x01", "")
	for off, want := range map[int64][16]byte{
		-1: [16]byte([]byte("\xfa" + full(15))),
		0:  {},
		1:  {1},
		2:  {2},
		3:  {3},
	} {
		b := summing(t, 2, new(big.Int).Add(prime(), big.NewInt(off)))
		if got := poly.Sum(key, b); got != want {
			t.Errorf("2^130 - 5 and %d: got %x, want %x", off, got, want)
		}
	}
}

// reaching answers bytes behind which A is just the target: four parts by trial (with fewer a small R does not reach all), and what a fifth one has to be then.
func reaching(t *testing.T, key api.Key, target *big.Int) []byte {
	t.Helper()
	wanted := new(big.Int).ModInverse(multiplier(key), prime())
	wanted.Mul(wanted, target)
	for seed := range uint32(1000) {
		four := samples.Mixed(64, seed)
		n := new(big.Int).Sub(wanted, behind(key, four))
		n.Mod(n, prime())
		// A whole part has its 1 at the bit 128, and nothing above it.
		if n.BitLen() != 129 {
			continue
		}
		fifth := n.SetBit(n, 128, 0).FillBytes(make([]byte, 16))
		slices.Reverse(fifth)
		return append(four, fifth...)
	}
	t.Fatalf("key %x does not reach %d", key, target)
	return nil
}

// edges answers the numbers next to 0, to the powers of two at which digits or words may end, and to 2^130 - 5.
func edges() []*big.Int {
	var all []*big.Int
	for off := int64(-6); off <= 6; off++ {
		for _, n := range []uint{26, 27, 28, 30, 32, 52, 64, 78, 96, 104, 127, 128, 129, 130} {
			all = append(all, new(big.Int).Add(power(n), big.NewInt(off)))
		}
		all = append(all, new(big.Int).Add(prime(), big.NewInt(off)), big.NewInt(off+6))
	}
	for i, n := range all {
		all[i] = n.Mod(n, prime())
	}
	return all
}

func TestProductsAtTheEdges(t *testing.T) {
	for _, r := range []string{"\x01", "\x02", "\x05", full(16), string(samples.Mixed(16, 1)), string(samples.Mixed(16, 2)), "\x00\x00\x00\x04", strings.Repeat("\x00", 15) + "\x08"} {
		for _, s := range []string{"", "\x01", full(16), string(samples.Mixed(16, 3))} {
			key := keyOf(r, s)
			for _, target := range edges() {
				b := reaching(t, key, target)
				if got, want := poly.Sum(key, b), tagOf(key, target); got != want {
					t.Errorf("key %x, A %x: got %x, want %x", key, target, got, want)
				}
				check(t, "a part behind it", key, append(b, 1))
			}
		}
	}
}

// sumRounds answers an S with which A is just so far from 2^128.
func sumRounds(a *big.Int, off int64) string {
	s := new(big.Int).Sub(power(128), a)
	s.Add(s, big.NewInt(off))
	s.Mod(s, power(128))
	b := s.FillBytes(make([]byte, 16))
	slices.Reverse(b)
	return string(b)
}

func TestTheSumWithSGoesRound(t *testing.T) {
	for seed := range uint32(10) {
		key := samples.Key(seed)
		for _, n := range []int{1, 16, 17, 60} {
			b := samples.Mixed(n, seed+50)
			a := behind(key, b)
			for off, want := range map[int64][16]byte{
				-2: [16]byte([]byte("\xfe" + full(15))),
				-1: [16]byte([]byte(full(16))),
				0:  {},
				1:  {1},
				2:  {2},
			} {
				copy(key[16:], sumRounds(a, off))
				if got := poly.Sum(key, b); got != want {
					t.Errorf("key %x, bytes %x: got %x, want %x", key, b, got, want)
				}
			}
		}
	}
}

// With R 1 a lone part has the 1 behind it at 2^128, which goes away.
func TestTheOneBehindAWholePartGoesAway(t *testing.T) {
	if got := poly.Sum(keyOf("\x01", ""), make([]byte, 16)); got != [16]byte{} {
		t.Errorf("got %x", got)
	}
	if got := poly.Sum(keyOf("\x01", full(16)), append([]byte{1}, make([]byte, 15)...)); got != [16]byte{} {
		t.Errorf("S goes round: got %x", got)
	}
	if got := poly.Sum(keyOf("\x01", full(8)), append([]byte{1}, make([]byte, 15)...)); got != [16]byte{8: 1} {
		t.Errorf("the low half of S goes over: got %x", got)
	}
}

func TestWhatIsHandedInStaysAsItWas(t *testing.T) {
	key := samples.Key(7)
	for n := range 50 {
		whole := samples.Mixed(80, 7)
		poly.Sum(key, whole[:n])
		if !bytes.Equal(whole, samples.Mixed(80, 7)) {
			t.Errorf("%d bytes: they became %x", n, whole)
		}
	}
	if key != samples.Key(7) {
		t.Errorf("the key became %x", key)
	}
}

func TestWhatLiesBehindTheBytesDoesNotCount(t *testing.T) {
	for n := range 50 {
		one, two := samples.Mixed(80, 7), samples.Mixed(80, 7)
		clear(two[n:])
		if poly.Sum(samples.Key(7), one[:n]) != poly.Sum(samples.Key(7), two[:n]) {
			t.Errorf("behind %d bytes something counts", n)
		}
	}
}

func TestAnAnswerIsTheCallers(t *testing.T) {
	b := samples.Mixed(40, 8)
	got := poly.Sum(samples.Key(8), b)
	before := got
	again := poly.Sum(samples.Key(8), b)
	clear(b)
	if got != before {
		t.Error("the answer hangs on what was handed in")
	}
	for i := range again {
		again[i] ^= 0xff
	}
	if got != before {
		t.Error("the answer hangs on another one")
	}
	if !bytes.Equal(b, make([]byte, 40)) {
		t.Error("what was handed in hangs on the answer")
	}
	if poly.Sum(samples.Key(8), samples.Mixed(40, 8)) != before {
		t.Error("an answer hangs on an earlier one")
	}
}

func TestTheSameCallsHaveTheSameAnswers(t *testing.T) {
	b := samples.Mixed(70, 9)
	want := poly.Sum(samples.Key(9), b)
	for seed := range uint32(20) {
		// Calls between them must not count.
		poly.Sum(samples.Key(seed), samples.Mixed(int(seed)*3, seed))
		if got := poly.Sum(samples.Key(9), b); got != want {
			t.Errorf("got %x, want %x", got, want)
		}
	}
}
