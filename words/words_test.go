package words_test

import (
	"bytes"
	"hash/crc32"
	"math"
	"testing"

	"hatchway/words"
)

func TestPutWritesTheLowestBytes(t *testing.T) {
	const n = 0x0102030405060708
	for _, c := range []struct {
		name string
		b    string
		size int
		n    uint64
		big  bool
		want string
	}{
		{"the chapter's example", "", 2, 258, true, "\x01\x02"},
		{"lowest first", "", 2, 258, false, "\x02\x01"},
		{"behind b", "ab", 1, 'c', true, "abc"},
		{"three of eight, highest first", "x", 3, n, true, "x\x06\x07\x08"},
		{"three of eight, lowest first", "x", 3, n, false, "x\x08\x07\x06"},
		{"all eight, highest first", "", 8, n, true, "\x01\x02\x03\x04\x05\x06\x07\x08"},
		{"all eight, lowest first", "", 8, n, false, "\x08\x07\x06\x05\x04\x03\x02\x01"},
		{"more bytes than the number needs", "", 4, 5, true, "\x00\x00\x00\x05"},
		{"the greatest number", "", 8, math.MaxUint64, true, "\xff\xff\xff\xff\xff\xff\xff\xff"},
		{"none", "a", 0, n, true, "a"},
		{"none behind nothing", "", 0, n, false, ""},
		{"below 0 is 0", "a", -1, n, true, "a"},
		{"far below 0 is 0", "a", math.MinInt, n, false, "a"},
		{"above 8 is 8, highest first", "a", 9, n, true, "a\x01\x02\x03\x04\x05\x06\x07\x08"},
		{"far above 8 is 8, lowest first", "a", math.MaxInt, n, false, "a\x08\x07\x06\x05\x04\x03\x02\x01"},
	} {
		if got := words.Put([]byte(c.b), c.size, c.n, c.big); string(got) != c.want {
			t.Errorf("%s: got % x, want % x", c.name, got, c.want)
		}
	}
	if got := words.Put(nil, 1, 7, true); string(got) != "\x07" {
		t.Errorf("behind nil: got % x", got)
	}
}

func TestPutAnswersNewMemory(t *testing.T) {
	for _, size := range []int{-1, 0, 2, 8, 9} {
		whole := []byte("abcdefghijklmnop")
		got := words.Put(whole[:3], size, 0x4142434445464748, true)
		if string(whole) != "abcdefghijklmnop" {
			t.Errorf("size %d: what was handed in became %q", size, whole)
		}
		want := string(got)
		whole[0], whole[3] = '!', '!'
		if string(got) != want {
			t.Errorf("size %d: the answer hangs on what was handed in", size)
		}
		got[0] = '?'
		if whole[0] != '!' {
			t.Errorf("size %d: what was handed in hangs on the answer", size)
		}
	}
}

func TestTwoPutsBehindTheSameBytesAreApart(t *testing.T) {
	b := make([]byte, 1, 32)
	one := words.Put(b, 2, 0x0101, true)
	two := words.Put(b, 2, 0x0202, true)
	if string(one) != "\x00\x01\x01" || string(two) != "\x00\x02\x02" {
		t.Errorf("got % x and % x", one, two)
	}
}

func TestGetReadsWhatIsThere(t *testing.T) {
	b := []byte{1, 2, 3, 4, 5, 6, 7, 0xff}
	for _, c := range []struct {
		name     string
		at, size int
		big      bool
		want     uint64
	}{
		{"one", 0, 1, true, 1},
		{"one, lowest first", 0, 1, false, 1},
		{"the last one", 7, 1, true, 0xff},
		{"two", 1, 2, true, 0x0203},
		{"two, lowest first", 1, 2, false, 0x0302},
		{"five", 2, 5, true, 0x0304050607},
		{"five, lowest first", 2, 5, false, 0x0706050403},
		{"all", 0, 8, true, 0x01020304050607ff},
		{"all, lowest first", 0, 8, false, 0xff07060504030201},
		{"up to the end", 5, 3, false, 0xff0706},
	} {
		if got, ok := words.Get(b, c.at, c.size, c.big); got != c.want || !ok {
			t.Errorf("%s: got %x, %v, want %x", c.name, got, ok, c.want)
		}
	}
}

func TestGetRefusesWhatIsNotThere(t *testing.T) {
	nine := []byte{1, 2, 3, 4, 5, 6, 7, 8, 9}
	for _, c := range []struct {
		name     string
		b        []byte
		at, size int
	}{
		{"of nil", nil, 0, 1},
		{"of no bytes", []byte{}, 0, 1},
		{"size 0", nine, 0, 0},
		{"size 0 at the end", nine, 9, 0},
		{"size below 0", nine, 4, -1},
		{"size far below 0", nine, 4, math.MinInt},
		{"size 9, though all are there", nine, 0, 9},
		{"size far above 8", nine, 0, math.MaxInt},
		{"at below 0", nine, -1, 2},
		{"at far below 0", nine, math.MinInt, 8},
		{"at the end", nine, 9, 1},
		{"behind the end", nine, 10, 1},
		{"one is missing", nine, 2, 8},
		{"most are missing", nine, 8, 8},
		{"at so great that a sum wraps round", nine, math.MaxInt, 8},
		{"within the capacity, not the length", nine[:2], 1, 2},
	} {
		for _, big := range []bool{true, false} {
			if n, ok := words.Get(c.b, c.at, c.size, big); n != 0 || ok {
				t.Errorf("%s: got %d, %v", c.name, n, ok)
			}
		}
	}
	if string(nine) != "\x01\x02\x03\x04\x05\x06\x07\x08\x09" {
		t.Errorf("what was handed in became % x", nine)
	}
}

func TestWhatWasPutIsGot(t *testing.T) {
	for _, n := range []uint64{0, 1, 0x80, 0xff, 0x100, 0x123456789abcdef0, 1 << 63, math.MaxUint64} {
		for size := 1; size <= 8; size++ {
			for _, big := range []bool{true, false} {
				want := n
				if size < 8 {
					want = n % (1 << (8 * size))
				}
				b := words.Put([]byte("head"), size, n, big)
				if got, ok := words.Get(b, 4, size, big); got != want || !ok {
					t.Errorf("%x, size %d, big %v: got %x, %v", n, size, big, got, ok)
				}
			}
		}
	}
}

func TestRotTurnsLeft(t *testing.T) {
	for _, c := range []struct {
		x    uint32
		n    int
		want uint32
	}{
		{0x12345678, 0, 0x12345678},
		{0x12345678, 4, 0x23456781},
		{0x12345678, 16, 0x56781234},
		{0x12345678, 28, 0x81234567},
		{0x12345678, 32, 0x12345678},
		{0x12345678, 36, 0x23456781},
		{0x12345678, -4, 0x81234567},
		{0x12345678, -32, 0x12345678},
		{0x12345678, -36, 0x81234567},
		{0x80000000, 1, 1},
		{1, 31, 0x80000000},
		{1, -1, 0x80000000},
		{1, math.MaxInt, 0x80000000},
		{1, math.MinInt, 1},
		{1, math.MinInt + 1, 2},
		{0, 7, 0},
		{math.MaxUint32, 13, math.MaxUint32},
	} {
		if got := words.Rot(c.x, c.n); got != c.want {
			t.Errorf("Rot(%x, %d): got %x, want %x", c.x, c.n, got, c.want)
		}
	}
}

func TestRotByAnyNumberIsThatOfItsRemainder(t *testing.T) {
	const x = 0xdeadbeef
	for n := -100; n <= 100; n++ {
		left := ((n % 32) + 32) % 32
		want := uint32((x<<left | x>>(32-left)) & math.MaxUint32)
		if got := words.Rot(x, n); got != want {
			t.Errorf("by %d: got %x, want %x", n, got, want)
		}
	}
}

func TestXorGoesAsFarAsBoth(t *testing.T) {
	for _, c := range []struct{ a, b, want string }{
		{"\x0f\xf0\xaa", "\xff\xff\xaa", "\xf0\x0f\x00"},
		{"\x01\x02\x03", "\x03\x02", "\x02\x00"},
		{"\x03", "\x01\x02\x03", "\x02"},
		{"abc", "", ""},
		{"", "abc", ""},
		{"", "", ""},
	} {
		if got := words.Xor([]byte(c.a), []byte(c.b)); string(got) != c.want {
			t.Errorf("% x against % x: got % x, want % x", c.a, c.b, got, c.want)
		}
	}
	if len(words.Xor(nil, []byte("a"))) != 0 || len(words.Xor([]byte("a"), nil)) != 0 || len(words.Xor(nil, nil)) != 0 {
		t.Error("against nil there is a place")
	}
}

func TestXorAnswersNewMemory(t *testing.T) {
	a, b := []byte("abcd"), []byte("0123")
	got := words.Xor(a, b)
	if string(a) != "abcd" || string(b) != "0123" {
		t.Errorf("what was handed in became %q, %q", a, b)
	}
	want := string(got)
	a[0], b[1] = 0, 0
	if string(got) != want {
		t.Error("the answer hangs on what was handed in")
	}
	got[2], got[3] = 0, 0
	if string(a) != "\x00bcd" || string(b) != "0\x0023" {
		t.Error("what was handed in hangs on the answer")
	}
	one := []byte("same")
	if string(words.Xor(one, one)) != "\x00\x00\x00\x00" || string(one) != "same" {
		t.Error("bytes against themselves")
	}
}

func TestSameWantsLengthAndBytes(t *testing.T) {
	for _, c := range []struct {
		a, b []byte
		want bool
	}{
		{nil, nil, true},
		{nil, []byte{}, true},
		{[]byte{}, nil, true},
		{[]byte("abc"), []byte("abc"), true},
		{[]byte("abc"), []byte("xbc"), false},
		{[]byte("abc"), []byte("axc"), false},
		{[]byte("abc"), []byte("abx"), false},
		{[]byte("abc"), []byte("ab"), false},
		{[]byte("ab"), []byte("abc"), false},
		{[]byte{0}, nil, false},
		{nil, []byte{0}, false},
		{[]byte{1, 0}, []byte{1}, false},
		{[]byte{0x80}, []byte{0x00}, false},
	} {
		if got := words.Same(c.a, c.b); got != c.want {
			t.Errorf("% x and % x: got %v", c.a, c.b, got)
		}
	}
	a, b := []byte("left"), []byte("left")
	if !words.Same(a, b) || string(a) != "left" || string(b) != "left" {
		t.Error("what was handed in is not as it was")
	}
}

func TestCrcOfKnownTexts(t *testing.T) {
	for _, c := range []struct {
		text string
		want uint32
	}{
		{"", 0},
		{"123456789", 0xCBF43926},
		{"a", 0xE8B7BE43},
		{"abc", 0x352441C2},
		{"\x00", 0xD202EF8D},
		{"\x00\x00\x00\x00", 0x2144DF1C},
		{"\xff\xff\xff\xff", 0xFFFFFFFF},
	} {
		if got := words.Crc([]byte(c.text)); got != c.want {
			t.Errorf("%q: got %X, want %X", c.text, got, c.want)
		}
	}
	if words.Crc(nil) != 0 {
		t.Error("of nil it is not 0")
	}
}

func TestCrcIsThatOfTheLibrary(t *testing.T) {
	b := make([]byte, 700)
	for i := range b {
		b[i] = byte(i * i >> 3)
	}
	before := bytes.Clone(b)
	for n := range b {
		if got, want := words.Crc(b[:n]), crc32.ChecksumIEEE(b[:n]); got != want {
			t.Fatalf("of %d bytes: got %X, want %X", n, got, want)
		}
	}
	if !bytes.Equal(b, before) {
		t.Error("what was handed in is not as it was")
	}
	for c := range 256 {
		if got, want := words.Crc([]byte{byte(c)}), crc32.ChecksumIEEE([]byte{byte(c)}); got != want {
			t.Errorf("of the byte %d: got %X, want %X", c, got, want)
		}
	}
}
