package blake_test

import (
	"bytes"
	"crypto/sha256"
	"encoding/hex"
	"fmt"
	"slices"
	"strings"
	"testing"

	"hatchway/api"
	"hatchway/blake"
	"hatchway/samples"
)

// ofNothing is the sum of no bytes.
const ofNothing = "69217a3079908094e11121d042354a7c1f55b6482ca1a51e1b250dfd1ed0eef9"

// rising answers n bytes 0, 1, 2 ..
func rising(n int) []byte {
	b := make([]byte, n)
	for i := range b {
		b[i] = byte(i)
	}
	return b
}

// sequence answers the bytes that the self-test of RFC 7693, E, makes of a length.
func sequence(n int) []byte {
	b := make([]byte, n)
	one, two := 0xdead4bad*uint32(n), uint32(1)
	for i := range b {
		one, two = two, one+two
		b[i] = byte(two >> 24)
	}
	return b
}

// nothings answers bytes of which there are none, with and without something behind them.
func nothings() [][]byte {
	return [][]byte{nil, {}, make([]byte, 0, 100), samples.Mixed(100, 1)[:0], samples.Mixed(100, 1)[100:]}
}

// lengths answers those just below, at and just above multiples of sixty-four, and some beside them.
func lengths() []int {
	return []int{0, 1, 2, 31, 32, 33, 62, 63, 64, 65, 66, 127, 128, 129, 191, 192, 193, 255, 256, 257, 640, 1000}
}

// written answers the hash of the pieces, in order.
func written(pieces ...[]byte) *blake.Hash {
	h := blake.New()
	for _, b := range pieces {
		h.Write(b)
	}
	return h
}

// is fails, unless the sum is the one that is wanted, to base sixteen.
func is(t *testing.T, what string, got api.Key, want string) {
	t.Helper()
	if hex.EncodeToString(got[:]) != want {
		t.Errorf("%s: got %x, want %s", what, got, want)
	}
}

// isSame fails, unless both sums are the same.
func isSame(t *testing.T, what string, got, want api.Key) {
	t.Helper()
	if got != want {
		t.Errorf("%s: got %x, want %x", what, got, want)
	}
}

// invert turns all bits round.
func invert(b []byte) {
	for i := range b {
		b[i] ^= 0xff
	}
}

// The chapter's example is that of RFC 7693, B; the others are what Python's hashlib and OpenSSL tell.
func TestSumOfKnownTexts(t *testing.T) {
	for _, c := range []struct {
		name string
		b    []byte
		want string
	}{
		{"abc", []byte("abc"), "508c5e8c327c14e2e1a72ba34eeb452f37458b209ed63a294d999b4c86675982"},
		{"nothing", nil, ofNothing},
		{"a byte 0", []byte{0}, "e34d74dbaf4ff4c6abd871cc220451d2ea2648846c7757fbaac82fe51ad64bea"},
		{"the fox", []byte("The quick brown fox jumps over the lazy dog"), "606beeec743ccbeff6cbcdf5d5302aa855c256c29b88c8ed331ea1a6bf3c8812"},
		{"63 zeros", make([]byte, 63), "d962856f3fcfaac80a84722012c38da68cce6b924a397d5a3db009babefdee61"},
		{"64 zeros", make([]byte, 64), "ae09db7cd54f42b490ef09b6bc541af688e4959bb8c53f359a6f56e38ab454a3"},
		{"65 zeros", make([]byte, 65), "857328bf990b00922782d3e81c6054c25d3375d386c7424abe3e01d79041046c"},
		{"128 zeros", make([]byte, 128), "4e420520b981ce7bdbf4ce2c4dbadb9450079b7deb9737b5232957d323f801cb"},
		{"a million", []byte(strings.Repeat("a", 1000000)), "bec0c0e6cde5b67acb73b81f79a67a4079ae1c60dac9d2661af18e9f8b50dfa5"},
	} {
		is(t, c.name, blake.Sum(c.b), c.want)
		is(t, c.name+", written", written(c.b).Sum(), c.want)
	}
}

func TestSumOfRisingBytes(t *testing.T) {
	for n, want := range map[int]string{
		1:   "e34d74dbaf4ff4c6abd871cc220451d2ea2648846c7757fbaac82fe51ad64bea",
		2:   "ddad9ab15dac4549ba42f49d262496bef6c0bae1dd342a8808f8ea267c6e210c",
		63:  "e57cb79487dd57902432b250733813bd96a84efce59f650fac26e6696aefafc3",
		64:  "56f34e8b96557e90c1f24b52d0c89d51086acf1b00f634cf1dde9233b8eaaa3e",
		65:  "1b53ee94aaf34e4b159d48de352c7f0661d0a40edff95a0b1639b4090e974472",
		128: "1fa877de67259d19863a2a34bcc6962a2b25fcbf5cbecd7ede8f1fa36688a796",
		129: "5bd169e67c82c2c2e98ef7008bdf261f2ddf30b1c00f9e7f275bb3e8a28dc9a2",
		255: "f03f5789d3336b80d002d59fdf918bdb775b00956ed5528e86aa994acb38fe2d",
	} {
		is(t, fmt.Sprint(n, " bytes"), blake.Sum(rising(n)), want)
	}
}

// The inputs of the self-test of RFC 7693, E; the sums of 32 bytes without a key go into its own.
func TestSumOfTheInputsOfTheRFC(t *testing.T) {
	for n, want := range map[int]string{
		0:    ofNothing,
		3:    "77012be5f6fb6b23846795e1e8e22fb598a1ba60ea59a378d9d908d8b6dea646",
		64:   "ea1387748c70a79548f4e19453cacf84e6eadf88beb5511ad53181271c6f40e5",
		65:   "f40d1afedd6265437e1cc49a2bae67c3bf936f84956ef2d548e0a323df58aa59",
		255:  "ad4286d0cb7544fe3b1c1aff31b8a9aa3b6076d9a2c6b4bbdb7975ba7f7408a1",
		1024: "c795e9ac66ad49540e9ce43efcc6da142c61c1e6051f0608bb109c14d24e4ebb",
	} {
		is(t, fmt.Sprint(n, " bytes"), blake.Sum(sequence(n)), want)
	}
}

// Of each length Mixed has the length as its seed too.
func TestSumOfMixedBytes(t *testing.T) {
	for n, want := range map[int]string{
		1:       "6fa16ac015c6513f6b98ee9e3f771ca8324a0ce77fbb9337fe3f8f549643dc73",
		62:      "4ad73b022d02a5ff887a12167b2166225d97117b0113867d106be09b6e0b862b",
		63:      "0ea043f80473486e3457e741830794be35cce988d92c532f776f584a4a64ef7f",
		64:      "774f38415c38651c6acb1468f2a78c4e69c50000903042efe697059887fb91df",
		65:      "3ae570837252b129da31077fdee309ede127fda8827e7f31045505f409b7485c",
		127:     "c534f2e97be6702dbc565ca33250f898da5ee4c1c4d80a77c3a3b73c16b46a5c",
		128:     "678f5f59c049db2b6b6f84654db6cba32126d694aaebae507d4b3479c4cbd4e3",
		129:     "5650449067278ba52dc4f98c0a0f69a1e6db9dec30895cf719321a6866facb6c",
		191:     "576d66bbf5e7f035f662f9f81572abda0a0b976e4e15725e06a7d1525189bd81",
		192:     "9dff3a24c088287140722037870452ad7e19a294465db52972e0f70728a27508",
		193:     "2aa0b58a0d611630278b010fe37eb1690e914943060a6a81e2becb678398c5c4",
		1500:    "b867fc06202a4d31e0f83705039e5f9f1c787f1fb323b7e4a5c61fbb4557d38c",
		4095:    "5d729c208b28f48ddda3ceb87f54367ae8ec64e21408450c244042f39184d50a",
		4096:    "7b867166d4c7c14b02a18058148174d3dec1db6bc4d7abf7279fd4e3a5b1b5aa",
		4097:    "ef6083abf6efc24e0a1c9b860ae35c065354d25fbe4ea5b882a8a7588eac911f",
		9999:    "98fc8659a545478d2acd7cca087f92b77243f540836d23f78fc32cfdfe10f8f3",
		65536:   "56d43b0f46abe09b8fe135b12c05d4464929ac10c83c271130cf80f14483c99d",
		1000003: "3518dbe29fc0a7467a8a391a0aec234cd23c6adab54a59d3f0915bc31d046273",
	} {
		is(t, fmt.Sprint(n, " bytes"), blake.Sum(samples.Mixed(n, uint32(n))), want)
	}
}

// What another program tells of each length, as one sum over all of them.
func TestSumOfAllLengths(t *testing.T) {
	all := sha256.New()
	for n := range 1300 {
		got := blake.Sum(samples.Mixed(n, uint32(n)))
		all.Write(got[:])
	}
	if got := hex.EncodeToString(all.Sum(nil)); got != "07ad6fa05d30d27e494313863b1e3071b76efcbfd9f783974bb2636f69d7c9aa" {
		t.Errorf("got %s", got)
	}
}

func TestSumOfNothing(t *testing.T) {
	is(t, "a new hash", blake.New().Sum(), ofNothing)
	for i, b := range nothings() {
		is(t, fmt.Sprint("nothing ", i), blake.Sum(b), ofNothing)
		is(t, fmt.Sprint("nothing ", i, ", written"), written(b).Sum(), ofNothing)
		is(t, fmt.Sprint("nothing ", i, ", written twice"), written(b, b).Sum(), ofNothing)
	}
}

// A part is filled with 0s, so that it is the count of bytes that keeps them apart.
func TestZerosAtTheEndCount(t *testing.T) {
	for _, text := range []string{"", "a", string(rising(63)), string(rising(64)), string(rising(65))} {
		seen := map[api.Key]int{}
		for n := range 200 {
			got := blake.Sum(append([]byte(text), make([]byte, n)...))
			if other, ok := seen[got]; ok {
				t.Errorf("%q: %d zeros are as %d", text, n, other)
			}
			seen[got] = n
		}
	}
}

func TestEachBitCounts(t *testing.T) {
	b := samples.Mixed(150, 2)
	seen := map[api.Key]int{blake.Sum(b): -1}
	for bit := range 8 * len(b) {
		got := blake.Sum(samples.Flipped(b, bit))
		if other, ok := seen[got]; ok {
			t.Errorf("bit %d counts as bit %d", bit, other)
		}
		seen[got] = bit
	}
}

func TestTheOrderOfPartsCounts(t *testing.T) {
	b := samples.Mixed(192, 3)
	if blake.Sum(b) == blake.Sum(slices.Concat(b[64:128], b[:64], b[128:])) {
		t.Error("two parts may be changed for each other")
	}
}

// A full part is mixed otherwise if it is the last one: what is written behind it must not come too late.
func TestTwoPieces(t *testing.T) {
	b := samples.Mixed(1000, 4)
	for _, n := range lengths() {
		want := blake.Sum(b[:n])
		for at := range n + 1 {
			isSame(t, fmt.Sprint(at, " of ", n, " bytes, and the rest"), written(b[:at], b[at:n]).Sum(), want)
		}
	}
}

func TestPiecesOfOneLength(t *testing.T) {
	b := samples.Mixed(1000, 5)
	for _, n := range lengths() {
		want := blake.Sum(b[:n])
		for _, size := range []int{1, 2, 3, 7, 31, 32, 33, 62, 63, 64, 65, 66, 127, 128, 129, 191, 192, 193, 500} {
			isSame(t, fmt.Sprint(n, " bytes by ", size), written(slices.Collect(slices.Chunk(b[:n], size))...).Sum(), want)
		}
	}
}

// The pieces' lengths take turns, so that a part ends at each place of a piece.
func TestPiecesOfManyLengths(t *testing.T) {
	b := samples.Mixed(20000, 6)
	for _, sizes := range [][]int{{0, 1}, {63, 64, 65}, {65, 64, 63}, {64, 1}, {1, 64}, {63, 1}, {1, 63, 64}, {127, 129, 0, 128}, {3, 0, 0, 200, 61}, {1000, 1, 63}} {
		h, at := blake.New(), 0
		for turn := 0; at < len(b); turn++ {
			end := min(at+sizes[turn%len(sizes)], len(b))
			h.Write(b[at:end])
			at = end
		}
		isSame(t, fmt.Sprint("pieces of ", sizes), h.Sum(), blake.Sum(b))
	}
}

func TestThreePiecesNextToAPart(t *testing.T) {
	b := samples.Mixed(400, 7)
	near := []int{0, 1, 62, 63, 64, 65, 66, 127, 128, 129}
	for _, one := range near {
		for _, two := range near {
			for _, three := range near {
				n := one + two + three
				h := written(b[:one], b[one:one+two], b[one+two:n])
				isSame(t, fmt.Sprint("pieces of ", one, ", ", two, " and ", three), h.Sum(), blake.Sum(b[:n]))
			}
		}
	}
}

func TestWritingNothingDoesNotCount(t *testing.T) {
	b := samples.Mixed(300, 8)
	for _, n := range []int{0, 1, 63, 64, 65, 128, 129, 300} {
		for i, none := range nothings() {
			h := written(none, b[:n/2], none, none, b[n/2:n], none)
			isSame(t, fmt.Sprint(n, " bytes, nothing ", i), h.Sum(), blake.Sum(b[:n]))
			h.Write(none)
			isSame(t, fmt.Sprint(n, " bytes, nothing ", i, " behind the sum"), h.Sum(), blake.Sum(b[:n]))
		}
	}
}

func TestASumBetweenDoesNotCount(t *testing.T) {
	b := samples.Mixed(300, 9)
	for _, size := range []int{1, 3, 63, 64, 65, 128} {
		h, n := blake.New(), 0
		is(t, "ahead of all", h.Sum(), ofNothing)
		for piece := range slices.Chunk(b, size) {
			h.Write(piece)
			n += len(piece)
			isSame(t, fmt.Sprint(n, " bytes by ", size), h.Sum(), blake.Sum(b[:n]))
		}
	}
}

func TestASumThatIsAskedForAgain(t *testing.T) {
	b := samples.Mixed(1000, 10)
	for _, n := range lengths() {
		h, want := written(b[:n]), blake.Sum(b[:n])
		for range 4 {
			isSame(t, fmt.Sprint(n, " bytes"), h.Sum(), want)
		}
		h.Write([]byte("more"))
		isSame(t, fmt.Sprint(n, " bytes and more"), h.Sum(), blake.Sum(append(bytes.Clone(b[:n]), "more"...)))
	}
}

// What waits for the rest of its part is not what was handed in, but a copy.
func TestWhatWasWrittenMayBeChanged(t *testing.T) {
	b := samples.Mixed(1000, 11)
	for _, n := range lengths() {
		one, two := bytes.Clone(b[:n]), bytes.Clone(b[n:])
		h := written(one)
		invert(one)
		isSame(t, fmt.Sprint(n, " bytes"), h.Sum(), blake.Sum(b[:n]))
		h.Write(two)
		invert(two)
		isSame(t, fmt.Sprint("and the rest behind ", n), h.Sum(), blake.Sum(b))
	}
}

// One buffer for all pieces, as who reads has it.
func TestOneBufferForAllPieces(t *testing.T) {
	b := samples.Mixed(1000, 12)
	for _, size := range []int{1, 10, 63, 64, 65, 200} {
		h, buffer := blake.New(), make([]byte, size)
		for piece := range slices.Chunk(b, size) {
			h.Write(buffer[:copy(buffer, piece)])
		}
		clear(buffer)
		isSame(t, fmt.Sprint("a buffer of ", size), h.Sum(), blake.Sum(b))
	}
}

func TestWhatIsHandedInStaysAsItWas(t *testing.T) {
	for _, n := range lengths() {
		// Room behind the bytes: to fill the last part there would write over it.
		whole := samples.Mixed(1200, 13)
		blake.Sum(whole[:n])
		h := written(whole[:n])
		h.Sum()
		h.Write(whole[n : n+100])
		h.Sum()
		if !bytes.Equal(whole, samples.Mixed(1200, 13)) {
			t.Errorf("%d bytes: they became %x", n, whole)
		}
	}
}

func TestWhatLiesBehindTheBytesDoesNotCount(t *testing.T) {
	for _, n := range lengths() {
		one, two := samples.Mixed(1200, 14), samples.Mixed(1200, 14)
		invert(two[n:])
		isSame(t, fmt.Sprint("behind ", n, " bytes"), blake.Sum(one[:n]), blake.Sum(two[:n]))
		isSame(t, fmt.Sprint("behind ", n, " bytes, written"), written(one[:n]).Sum(), written(two[:n]).Sum())
	}
}

func TestAnAnswerIsTheCallers(t *testing.T) {
	b := samples.Mixed(100, 15)
	want := blake.Sum(b)
	h := written(b)
	for range 3 {
		got := h.Sum()
		isSame(t, "an answer", got, want)
		invert(got[:])
		of := blake.Sum(b)
		isSame(t, "an answer of all at once", of, want)
		invert(of[:])
	}
}

func TestTwoHashesHaveNothingToDoWithEachOther(t *testing.T) {
	one, two := samples.Mixed(500, 16), samples.Mixed(500, 17)
	for _, size := range []int{1, 50, 63, 64, 65, 130} {
		first, second, idle := blake.New(), blake.New(), blake.New()
		for at := 0; at < len(one); at += size {
			end := min(at+size, len(one))
			first.Write(one[at:end])
			second.Write(two[at:end])
			isSame(t, "the first", first.Sum(), blake.Sum(one[:end]))
			isSame(t, "the second", second.Sum(), blake.Sum(two[:end]))
			is(t, "the third", idle.Sum(), ofNothing)
		}
		is(t, "a later one", blake.New().Sum(), ofNothing)
	}
}

// What is mixed stands in arrays: a copy of a hash goes on by itself.
func TestACopyOfAHashGoesOnByItself(t *testing.T) {
	b := samples.Mixed(400, 18)
	for _, n := range []int{0, 1, 63, 64, 65, 128, 200} {
		h := written(b[:n])
		other := *h
		h.Write(b[n:])
		isSame(t, fmt.Sprint("the copy at ", n), other.Sum(), blake.Sum(b[:n]))
		other.Write([]byte("elsewhere"))
		isSame(t, fmt.Sprint("the copy behind ", n), other.Sum(), blake.Sum(append(bytes.Clone(b[:n]), "elsewhere"...)))
		isSame(t, fmt.Sprint("the first one behind ", n), h.Sum(), blake.Sum(b))
	}
}

func TestTheSameCallsHaveTheSameAnswers(t *testing.T) {
	b := samples.Mixed(170, 19)
	want := blake.Sum(b)
	for seed := range uint32(20) {
		// Calls between them must not count.
		other := written(samples.Mixed(int(seed)*9, seed))
		blake.Sum(samples.Mixed(int(seed)*13, seed))
		isSame(t, "all at once", blake.Sum(b), want)
		h := written(b[:100])
		other.Write(b)
		other.Sum()
		h.Write(b[100:])
		isSame(t, "in pieces", h.Sum(), want)
	}
}
