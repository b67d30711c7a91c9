package stun_test

import (
	"bytes"
	"encoding/binary"
	"hash/crc32"
	"reflect"
	"regexp"
	"slices"
	"strconv"
	"strings"
	"testing"

	"hatchway/api"
	"hatchway/samples"
	"hatchway/stun"
)

// The types of the attributes, once more, so that the tests do not hang on the package's own.
const (
	aCode     = 9
	aUnknown  = 10
	aMapped   = 32
	aSoftware = 32802
	aCrc      = 32808
)

// classes are all that there are; typeOf is what a text of each begins with.
var (
	classes = []int{stun.Request, stun.Answer, stun.Failure}
	typeOf  = map[int]int{stun.Request: 1, stun.Answer: 257, stun.Failure: 273}
)

// id is that of most messages here.
var id = api.ID(samples.Hex("a0a1a2a3a4a5a6a7a8a9aaab"))

// two answers the two bytes of n.
func two(n int) []byte {
	return binary.BigEndian.AppendUint16(nil, uint16(n))
}

// part answers an attribute with that value, filled up.
func part(kind int, value ...byte) []byte {
	b := slices.Concat(two(kind), two(len(value)), value)
	for len(b)%4 != 0 {
		b = append(b, 0)
	}
	return b
}

// ended answers b with a last attribute that is right for what stands ahead of it.
func ended(b []byte) []byte {
	return binary.BigEndian.AppendUint32(slices.Concat(b, two(aCrc), two(4)), crc32.ChecksumIEEE(b)^0x5354554e)
}

// text answers a text of that type, and of those attributes, that is right but for what these are.
func text(kind int, parts ...[]byte) []byte {
	body := slices.Concat(parts...)
	return ended(slices.Concat(two(kind), two(len(body)+8), []byte{0x21, 0x12, 0xa4, 0x42}, id[:], body))
}

// repaired answers b with another last attribute, that is right for what b became.
func repaired(b []byte) []byte {
	return ended(b[:len(b)-8])
}

// address answers the value of an address.
func address(a api.Addr) []byte {
	b := slices.Concat([]byte{0, 1}, two(a.Port^0x2112))
	return binary.BigEndian.AppendUint32(b, a.Host^0x2112a442)
}

// plain answers the text of a message that is right, as the chapter's words tell it.
func plain(m stun.Message) []byte {
	var parts [][]byte
	if m.Class == stun.Answer {
		parts = append(parts, part(aMapped, address(m.Mapped)...))
	}
	if m.Class == stun.Failure {
		parts = append(parts, part(aCode, append([]byte{0, 0, byte(m.Code / 100), byte(m.Code % 100)}, m.Reason...)...))
		var all []byte
		for _, n := range m.Unknown {
			all = append(all, two(n)...)
		}
		if len(all) > 0 {
			parts = append(parts, part(aUnknown, all...))
		}
	} else {
		for _, n := range m.Unknown {
			parts = append(parts, part(n))
		}
	}
	if m.Software != "" {
		parts = append(parts, part(aSoftware, []byte(m.Software)...))
	}
	b := text(typeOf[m.Class], parts...)
	copy(b[8:], m.ID[:])
	return repaired(b)
}

// areSame tells whether two messages are; an Unknown may be nil or empty.
func areSame(a, b stun.Message) bool {
	alike := slices.Equal(a.Unknown, b.Unknown)
	a.Unknown, b.Unknown = nil, nil
	return alike && reflect.DeepEqual(a, b)
}

// right fails, unless m is right, and has its plain text, and is heard of it.
func right(t *testing.T, what string, m stun.Message) {
	t.Helper()
	if !stun.Right(m) {
		t.Errorf("%s: not right: %+v", what, m)
	}
	b, e := stun.Encode(m)
	if want := plain(m); e != api.OK || !bytes.Equal(b, want) {
		t.Errorf("%s: %+v: got %x, %v, want %x", what, m, b, e, want)
	}
	heard(t, what, plain(m), m)
}

// heard fails, unless Decode answers m of b.
func heard(t *testing.T, what string, b []byte, m stun.Message) {
	t.Helper()
	if got, e := stun.Decode(b); e != api.OK || !areSame(got, m) {
		t.Errorf("%s: %x: got %+v, %v, want %+v", what, b, got, e, m)
	}
}

// wrong fails, unless m is not right, and has no text.
func wrong(t *testing.T, what string, m stun.Message) {
	t.Helper()
	if stun.Right(m) {
		t.Errorf("%s: right: %+v", what, m)
	}
	if b, e := stun.Encode(m); e != api.ErrArg || len(b) != 0 {
		t.Errorf("%s: %+v: got %x, %v", what, m, b, e)
	}
}

// refused fails, unless Decode answers no message of b.
func refused(t *testing.T, what string, b []byte) {
	t.Helper()
	if m, e := stun.Decode(b); e != api.ErrForm || !areSame(m, stun.Message{}) {
		t.Errorf("%s: %x: got %+v, %v", what, b, m, e)
	}
}

// rightIf fails, unless m is right just if it is to be so.
func rightIf(t *testing.T, what string, m stun.Message, so bool) {
	t.Helper()
	if so {
		right(t, what, m)
	} else {
		wrong(t, what, m)
	}
}

// usual answers a right message of a class, with an empty Unknown.
func usual(class int) stun.Message {
	m := stun.Message{Class: class, ID: id}
	switch class {
	case stun.Answer:
		m.Mapped = api.Addr{Host: 0xC0000201, Port: 32853}
	case stun.Failure:
		m.Code = 420
	}
	return m
}

// full answers a right message of a class that has all that it may.
func full(class int) stun.Message {
	m := usual(class)
	m.Software = "hatchway"
	m.Unknown = []int{2, 36, 0x7fff, 0}
	if class == stun.Failure {
		m.Reason = "no such thing"
	}
	return m
}

// several answers messages of all sorts.
func several() []stun.Message {
	var all []stun.Message
	for _, class := range classes {
		all = append(all, usual(class), full(class))
		for n := range 9 {
			m := usual(class)
			m.ID = samples.Nonce(uint32(n))
			m.Software = string(samples.Mixed(n*n, 7))
			for i := range n {
				m.Unknown = append(m.Unknown, 1000*i+2)
			}
			if class == stun.Failure {
				m.Reason = string(samples.Mixed(10*n, 9))
			}
			all = append(all, m)
		}
	}
	return all
}

// sized answers a text of so many bytes.
func sized(n int) string {
	return string(samples.Mixed(n, 3))
}

func TestExample(t *testing.T) {
	m := stun.Message{Class: stun.Answer, ID: id, Mapped: api.Addr{Host: 1, Port: 2}}
	if b, e := stun.Encode(m); e != api.OK || len(b) != 40 {
		t.Errorf("got %x, %v", b, e)
	}
	right(t, "of 40 bytes", m)
}

func TestClassesHaveTheirNumbers(t *testing.T) {
	if stun.Request != 0 || stun.Answer != 2 || stun.Failure != 3 {
		t.Errorf("they are %d, %d, %d", stun.Request, stun.Answer, stun.Failure)
	}
}

// These texts are those of pion/stun.
func TestWhatOthersTell(t *testing.T) {
	for _, c := range []struct {
		m    stun.Message
		told string
	}{
		{stun.Message{}, "000100082112a442a0a1a2a3a4a5a6a7a8a9aaab80280004f767916f"},
		{stun.Message{Software: "hatch", Unknown: []int{2, 0x7fff, 0}},
			"000100202112a442a0a1a2a3a4a5a6a7a8a9aaab000200007fff00000000000080220005686174636800000080280004233bc1d6"},
		{stun.Message{Class: stun.Answer, Mapped: api.Addr{Host: 0xC0000201, Port: 32853}},
			"010100142112a442a0a1a2a3a4a5a6a7a8a9aaab002000080001a147e112a64380280004cb00a42c"},
		{stun.Message{Class: stun.Answer, Mapped: api.Addr{Host: 0xffffffff, Port: 65535}, Unknown: []int{36}, Software: "way"},
			"010100202112a442a0a1a2a3a4a5a6a7a8a9aaab002000080001deeddeed5bbd00240000802200037761790080280004636f6da0"},
		{stun.Message{Class: stun.Answer}, "010100142112a442a0a1a2a3a4a5a6a7a8a9aaab00200008000121122112a44280280004163f4c5d"},
		{stun.Message{Class: stun.Failure, Code: 300}, "011100102112a442a0a1a2a3a4a5a6a7a8a9aaab0009000400000300802800045c594d63"},
		{stun.Message{Class: stun.Failure, Code: 420, Reason: "Unknown Attribute", Unknown: []int{2, 0x7fff, 65535}},
			"011100302112a442a0a1a2a3a4a5a6a7a8a9aaab0009001500000414556e6b6e6f776e20417474726962757465000000" +
				"000a000600027fffffff00008028000458b5ab8d"},
		{stun.Message{Class: stun.Failure, Code: 699, Reason: "no", Software: "hatchway"},
			"011100202112a442a0a1a2a3a4a5a6a7a8a9aaab00090006000006636e6f000080220008686174636877617980280004e5ce7f4f"},
	} {
		c.m.ID = id
		if b, e := stun.Encode(c.m); e != api.OK || !bytes.Equal(b, samples.Hex(c.told)) {
			t.Errorf("%+v: got %x, %v, want %s", c.m, b, e, c.told)
		}
		heard(t, "of others", samples.Hex(c.told), c.m)
	}
}

func TestClass(t *testing.T) {
	for class := -2; class < 300; class++ {
		_, is := typeOf[class]
		rightIf(t, "class", stun.Message{Class: class, Code: 0, ID: id}, is && class != stun.Failure)
		rightIf(t, "class", stun.Message{Class: class, Code: 420, ID: id}, class == stun.Failure)
	}
	for _, class := range []int{-1 << 63, -256, 1 << 8, 1<<32 + 2, 1<<62 + 2, 1<<63 - 1} {
		wrong(t, "class", stun.Message{Class: class})
	}
}

func TestMappedIsOfAnAnswer(t *testing.T) {
	for _, class := range classes {
		for _, a := range []api.Addr{{Host: 1}, {Port: 1}, {Host: 1 << 31, Port: 65535}, {Port: -1}, {Port: 65536}, {}} {
			m := usual(class)
			m.Mapped = a
			rightIf(t, "mapped", m, a == api.Addr{} || class == stun.Answer && a.Port >= 0 && a.Port <= 65535)
		}
	}
}

func TestPorts(t *testing.T) {
	m := usual(stun.Answer)
	for port := -2; port <= 65538; port++ {
		m.Mapped.Port = port
		rightIf(t, "port", m, port >= 0 && port <= 65535)
	}
	for _, port := range []int{-1 << 63, -1 << 32, -65536, 1<<32 + 1, 1 << 62, 1<<63 - 1} {
		m.Mapped.Port = port
		wrong(t, "port", m)
	}
}

func TestHosts(t *testing.T) {
	m := usual(stun.Answer)
	for bit := range 32 {
		for _, host := range []uint32{0, 1 << bit, 1<<bit - 1, ^uint32(1 << bit), 0x2112a442, 0x2112a442 ^ 1<<bit} {
			m.Mapped.Host = host
			right(t, "host", m)
		}
	}
}

func TestTextsOfEachLength(t *testing.T) {
	for _, class := range classes {
		for n := range 104 {
			m := usual(class)
			m.Software = sized(n)
			rightIf(t, "software", m, n <= 100)
			m = usual(class)
			m.Reason = sized(n)
			rightIf(t, "reason", m, n == 0 || class == stun.Failure && n <= 100)
			m.Software = sized(100)
			rightIf(t, "reason, and software", m, n == 0 || class == stun.Failure && n <= 100)
		}
	}
	for _, text := range []string{"\x00", "\x00\x00\x00\x00", "a\x00", "\xff\xfe", "äöü", strings.Repeat("ä", 50)} {
		m := full(stun.Failure)
		m.Software, m.Reason = text, text
		right(t, "bytes of any kind", m)
	}
	m := usual(stun.Request)
	m.Software = strings.Repeat("ä", 51)
	wrong(t, "51 runes of 102 bytes", m)
	m.Software = strings.Repeat("a", 65536+50)
	wrong(t, "a length that two bytes do not tell", m)
}

func TestCodes(t *testing.T) {
	for code := -1; code < 1100; code++ {
		m := stun.Message{Class: stun.Failure, ID: id, Code: code}
		rightIf(t, "code", m, code >= 300 && code <= 699)
	}
	for _, code := range []int{-1 << 63, -420, 1<<32 + 420, 1<<16 + 420, 1<<8 + 44 + 65536, 1<<63 - 1} {
		wrong(t, "code", stun.Message{Class: stun.Failure, Code: code})
	}
	for _, class := range []int{stun.Request, stun.Answer} {
		for _, code := range []int{-1, 1, 299, 300, 420, 699, 700} {
			m := usual(class)
			m.Code = code
			wrong(t, "code of no failure", m)
		}
	}
}

func TestUnknownOfFailuresOfOtherCodes(t *testing.T) {
	for code := 300; code < 700; code++ {
		m := usual(stun.Failure)
		m.Code = code
		m.Unknown = []int{}
		right(t, "without", m)
		m.Unknown = []int{2}
		rightIf(t, "one number", m, code == 420)
		m.Unknown = make([]int, 21)
		wrong(t, "21 numbers", m)
	}
}

func TestHowManyUnknown(t *testing.T) {
	for _, class := range classes {
		for n := range 30 {
			m := usual(class)
			for i := range n {
				m.Unknown = append(m.Unknown, 100+i)
			}
			rightIf(t, "so many", m, n <= 20)
			m.Software = sized(100)
			if class == stun.Failure {
				m.Reason = sized(100)
			}
			rightIf(t, "and all else", m, n <= 20)
		}
		m := usual(class)
		m.Unknown = make([]int, 65536+1)
		wrong(t, "very many", m)
	}
}

func TestWhichNumbersAreUnknown(t *testing.T) {
	known := []int{1, 6, 8, 9, 10, 20, 21, 32}
	for n := -2; n < 65540; n++ {
		for _, class := range classes {
			m := usual(class)
			m.Unknown = []int{n}
			so := n >= 0 && n <= 65535
			if class != stun.Failure {
				so = so && n < 32768 && !slices.Contains(known, n)
			}
			rightIf(t, "number", m, so)
		}
	}
	for _, n := range []int{-1 << 63, -65536, 1<<16 + 2, 1<<32 + 2, 1<<63 - 1} {
		for _, class := range classes {
			m := usual(class)
			m.Unknown = []int{n}
			wrong(t, "number", m)
		}
	}
}

func TestEachNumberOfUnknownCounts(t *testing.T) {
	for _, class := range classes {
		for at := range 20 {
			for _, bad := range []int{-1, 65536, 32, 1, 32768, 65535} {
				m := usual(class)
				for i := range 20 {
					m.Unknown = append(m.Unknown, 200+i)
				}
				m.Unknown[at] = bad
				rightIf(t, "one of twenty", m, class == stun.Failure && bad >= 0 && bad <= 65535)
			}
		}
	}
}

// The chapter asks neither for an order nor that each one comes once.
func TestUnknownInAnyOrder(t *testing.T) {
	for _, class := range classes {
		for _, all := range [][]int{{3, 2}, {2, 3}, {2, 2}, {0, 0, 0}, {5, 4, 5}} {
			m := full(class)
			m.Unknown = all
			right(t, "order", m)
		}
	}
	m := full(stun.Failure)
	m.Unknown = []int{65535, 32, 32, 9, 0, 32768}
	right(t, "known ones of a failure", m)
}

func TestAllAtOnce(t *testing.T) {
	for _, m := range several() {
		right(t, "several", m)
	}
}

func TestIDs(t *testing.T) {
	for seed := range uint32(50) {
		for _, class := range classes {
			m := full(class)
			m.ID = samples.Nonce(seed)
			right(t, "id", m)
		}
	}
	right(t, "no id", stun.Message{})
}

func TestOneTextOfEachMessage(t *testing.T) {
	seen := map[string]bool{}
	for _, class := range classes {
		for _, other := range []func(m *stun.Message){
			func(m *stun.Message) {},
			func(m *stun.Message) { m.ID[11]++ },
			func(m *stun.Message) { m.Software = "a" },
			func(m *stun.Message) { m.Software = "a\x00" },
			func(m *stun.Message) { m.Unknown = []int{2} },
			func(m *stun.Message) { m.Unknown = []int{2, 3} },
			func(m *stun.Message) { m.Unknown = []int{3, 2} },
		} {
			m := usual(class)
			other(&m)
			b, e := stun.Encode(m)
			if e != api.OK || seen[string(b)] {
				t.Errorf("%+v: got %x, %v", m, b, e)
			}
			seen[string(b)] = true
		}
	}
}

func TestOtherBits(t *testing.T) {
	for _, m := range several() {
		b := plain(m)
		for bit := range 8 * len(b) {
			refused(t, "bit", samples.Flipped(b, bit))
		}
	}
}

// With a last attribute that is right for it, another bit is another message, or none; never the same one.
func TestOtherBitsAreOtherMessages(t *testing.T) {
	for _, m := range several() {
		b := plain(m)
		for bit := range 8 * (len(b) - 8) {
			other := repaired(samples.Flipped(b, bit))
			got, e := stun.Decode(other)
			if e == api.OK && !bytes.Equal(plain(got), other) || e == api.OK && areSame(got, m) {
				t.Errorf("bit %d of %x: got %+v", bit, b, got)
			}
			if e != api.OK {
				refused(t, "bit", other)
			}
		}
	}
}

func TestOtherLengths(t *testing.T) {
	refused(t, "nil", nil)
	refused(t, "empty", []byte{})
	for _, m := range several() {
		b := plain(m)
		for n := range b {
			refused(t, "cut off", b[:n])
			refused(t, "begun late", b[n+1:])
		}
		for n := 1; n < 40; n++ {
			refused(t, "0s behind", append(bytes.Clone(b), make([]byte, n)...))
			refused(t, "bytes behind", append(bytes.Clone(b), samples.Mixed(n, 5)...))
			refused(t, "0s ahead", append(make([]byte, n), b...))
		}
		refused(t, "twice", append(bytes.Clone(b), b...))
	}
}

// The shortest texts that a right last attribute stands in, and what is shorter still.
func TestShortTexts(t *testing.T) {
	whole := plain(usual(stun.Request))
	if len(whole) != 28 {
		t.Fatalf("it has %d bytes", len(whole))
	}
	for n := range 20 {
		refused(t, "too short a head", ended(whole[:n]))
		refused(t, "bytes alone", samples.Mixed(n, 1))
	}
	bare := slices.Concat(two(1), two(0), whole[4:20])
	refused(t, "a head alone", bare)
	for n := range 8 {
		b := slices.Concat(two(1), two(n), whole[4:20+n])
		refused(t, "a head, and a piece", b)
	}
}

func TestHeads(t *testing.T) {
	for _, m := range []stun.Message{usual(stun.Request), full(stun.Answer), full(stun.Failure)} {
		b := plain(m)
		for kind := range 1 << 16 {
			other := slices.Concat(two(kind), b[2:])
			switch kind {
			case 1, 257, 273:
				heardOrRefused(t, repaired(other))
			default:
				refused(t, "type", repaired(other))
			}
		}
		for length := range 1 << 16 {
			if length != len(b)-20 {
				refused(t, "length", repaired(slices.Concat(b[:2], two(length), b[4:])))
			}
		}
		for bit := range 32 {
			refused(t, "cookie", repaired(samples.Flipped(b, 32+bit)))
		}
	}
}

// heardOrRefused fails, unless b is refused, or is the text of what it is heard as.
func heardOrRefused(t *testing.T, b []byte) {
	t.Helper()
	m, e := stun.Decode(b)
	if e == api.OK {
		right(t, "heard", m)
		if !bytes.Equal(plain(m), b) {
			t.Errorf("%x: got %+v", b, m)
		}
		return
	}
	refused(t, "not heard", b)
}

func TestLastAttribute(t *testing.T) {
	for _, m := range several() {
		b := plain(m)
		ahead := b[:len(b)-8]
		crc := b[len(b)-4:]
		refused(t, "none", ahead)
		refused(t, "none, and the length is right", relength(ahead))
		for bit := range 32 {
			refused(t, "another sum", slices.Concat(ahead, two(aCrc), two(4), samples.Flipped(crc, bit)))
		}
		refused(t, "another type", slices.Concat(ahead, two(aCrc+1), two(4), crc))
		for n := range 20 {
			if n != 4 {
				refused(t, "another length", slices.Concat(ahead, two(aCrc), two(n), crc))
			}
		}
		plainCrc := crc32.ChecksumIEEE(ahead)
		refused(t, "a sum against nothing", binary.BigEndian.AppendUint32(slices.Concat(ahead, two(aCrc), two(4)), plainCrc))
		withHead := crc32.ChecksumIEEE(b[:len(b)-4]) ^ 0x5354554e
		refused(t, "a sum of its own head too", binary.BigEndian.AppendUint32(bytes.Clone(b[:len(b)-4]), withHead))
		short := relength(ahead)
		shortCrc := crc32.ChecksumIEEE(short) ^ 0x5354554e
		refused(t, "a sum of a length without it", binary.BigEndian.AppendUint32(bytes.Clone(b[:len(b)-4]), shortCrc))
		twice := relength(append(bytes.Clone(b), make([]byte, 8)...))
		refused(t, "twice", repaired(twice))
	}
}

// relength answers b with the length that it has.
func relength(b []byte) []byte {
	b = bytes.Clone(b)
	copy(b[2:], two(len(b)-20))
	return b
}

func TestForged(t *testing.T) {
	where := part(aMapped, address(api.Addr{Host: 9, Port: 8})...)
	no := part(aCode, 0, 0, 4, 20)
	soft := part(aSoftware, 'h', 'i')
	const request, answer, failure = 1, 257, 273
	for what, b := range map[string][]byte{
		"mapped twice":                       text(answer, where, where),
		"mapped twice, not alike":            text(answer, where, part(aMapped, address(api.Addr{Host: 1})...)),
		"code twice":                         text(failure, no, no),
		"unknown twice":                      text(failure, no, part(aUnknown, 0, 2), part(aUnknown, 0, 3)),
		"software twice":                     text(request, soft, soft),
		"software twice, not alike":          text(request, soft, part(aSoftware, 'x')),
		"crc in the middle":                  text(request, part(aCrc, 1, 2, 3, 4), soft),
		"mapped behind software":             text(answer, soft, where),
		"mapped behind an unknown one":       text(answer, part(2), where),
		"unknown one behind software":        text(request, soft, part(2)),
		"unknown ahead of code":              text(failure, part(aUnknown, 0, 2), no),
		"code behind software":               text(failure, soft, no),
		"unknown behind software":            text(failure, no, soft, part(aUnknown, 0, 2)),
		"an answer without mapped":           text(answer, soft),
		"an answer of nothing":               text(answer),
		"a failure without code":             text(failure, soft),
		"a failure of nothing":               text(failure),
		"a request with mapped":              text(request, where),
		"a request with mapped of nothing":   text(request, part(aMapped, address(api.Addr{})...)),
		"a failure with mapped":              text(failure, where, no),
		"a failure with mapped of nothing":   text(failure, no, part(aMapped, address(api.Addr{})...)),
		"a request with a code":              text(request, no),
		"a request with code 0":              text(request, part(aCode, 0, 0, 0, 0)),
		"an answer with a code":              text(answer, where, no),
		"an answer with code 0":              text(answer, where, part(aCode, 0, 0, 0, 0)),
		"a request with unknown":             text(request, part(aUnknown, 0, 2)),
		"an answer with unknown":             text(answer, where, part(aUnknown, 0, 2)),
		"a failure with an unknown one":      text(failure, no, part(2)),
		"a failure of 300 with unknown":      text(failure, part(aCode, 0, 0, 3, 0), part(aUnknown, 0, 2)),
		"a failure of 300, an unknown one":   text(failure, part(aCode, 0, 0, 3, 0), part(2)),
		"a request with an empty unknown":    text(request, part(aUnknown)),
		"an answer with an empty unknown":    text(answer, where, part(aUnknown)),
		"unknown without a number":           text(failure, no, part(aUnknown)),
		"unknown of one byte":                text(failure, no, part(aUnknown, 2)),
		"unknown of three bytes":             text(failure, no, part(aUnknown, 0, 2, 0)),
		"unknown of 21 numbers":              text(failure, no, part(aUnknown, make([]byte, 42)...)),
		"software of no bytes":               text(request, part(aSoftware)),
		"software of no bytes, of an answer": text(answer, where, part(aSoftware)),
		"software of 101 bytes":              text(request, part(aSoftware, make([]byte, 101)...)),
		"software of 1000 bytes":             text(request, part(aSoftware, make([]byte, 1000)...)),
		"reason of 101 bytes":                text(failure, part(aCode, append([]byte{0, 0, 4, 20}, make([]byte, 101)...)...)),
		"code of no bytes":                   text(failure, part(aCode)),
		"code of one byte":                   text(failure, part(aCode, 0)),
		"code of two bytes":                  text(failure, part(aCode, 0, 0)),
		"code of three bytes":                text(failure, part(aCode, 0, 0, 4)),
		"no 0 ahead of the hundreds":         text(failure, part(aCode, 0, 1, 4, 20)),
		"none at the front of the code":      text(failure, part(aCode, 1, 0, 4, 20)),
		"mapped of no bytes":                 text(answer, part(aMapped)),
		"mapped of IPv6":                     text(answer, part(aMapped, append([]byte{0, 2}, make([]byte, 18)...)...)),
		"IPv6 told as IPv4":                  text(answer, part(aMapped, append([]byte{0, 1}, make([]byte, 18)...)...)),
		"IPv4 told as IPv6":                  text(answer, part(aMapped, append([]byte{0, 2}, make([]byte, 6)...)...)),
		"mapped that begins with a 1":        text(answer, part(aMapped, append([]byte{1, 1}, make([]byte, 6)...)...)),
		"an unknown one of 4 bytes":          text(request, part(2, 0, 0, 0, 0)),
		"an unknown one of 1 byte":           text(answer, where, part(2, 0)),
		"one above 32767":                    text(request, part(32768)),
		"the greatest one":                   text(answer, where, part(65535)),
		"one above 32767, with bytes":        text(request, part(32770, 1, 2, 3, 4)),
	} {
		refused(t, what, b)
	}
	heard(t, "none of these", text(failure, no, part(aUnknown, 0, 2), soft),
		stun.Message{Class: stun.Failure, ID: id, Code: 420, Unknown: []int{2}, Software: "hi"})
	heard(t, "none of these", text(answer, where, part(2), soft),
		stun.Message{Class: stun.Answer, ID: id, Mapped: api.Addr{Host: 9, Port: 8}, Unknown: []int{2}, Software: "hi"})
}

func TestForgedNumbers(t *testing.T) {
	where := part(aMapped, address(api.Addr{})...)
	for hundreds := range 256 {
		for rest := range 256 {
			b := text(273, part(aCode, 0, 0, byte(hundreds), byte(rest)))
			if hundreds >= 3 && hundreds <= 6 && rest < 100 {
				heard(t, "code", b, stun.Message{Class: stun.Failure, ID: id, Code: 100*hundreds + rest})
			} else {
				refused(t, "code", b)
			}
		}
	}
	for _, n := range []int{1, 6, 8, 9, 10, 20, 21, 32} {
		refused(t, "a known one", text(1, part(n)))
		refused(t, "a known one", text(257, where, part(n)))
	}
	for size := range 24 {
		b := text(257, part(aMapped, append([]byte{0, 1}, make([]byte, size)...)...))
		if size == 6 {
			heard(t, "size", b, stun.Message{Class: stun.Answer, ID: id, Mapped: api.Addr{Host: 0x2112a442, Port: 0x2112}})
		} else {
			refused(t, "size", b)
		}
	}
	for family := range 1 << 16 {
		b := text(257, part(aMapped, append(two(family), make([]byte, 6)...)...))
		if family != 1 {
			refused(t, "family", b)
		}
	}
}

// With an attribute that tells another length than it has: longer than what is left, above all.
func TestForgedLengths(t *testing.T) {
	for _, m := range several() {
		b := plain(m)
		if len(b) == 28 {
			continue
		}
		for at := 20; at < len(b)-8; at += 4 + (int(b[at+2])<<8|int(b[at+3])+3)&^3 {
			own := int(b[at+2])<<8 | int(b[at+3])
			for _, length := range []int{0, 1, own - 1, own + 1, own + 4, own + 8, len(b) - at - 4, len(b) - at - 3, len(b), 32767, 32768, 65532, 65535} {
				if length < 0 || length == own {
					continue
				}
				other := bytes.Clone(b)
				copy(other[at+2:], two(length))
				heardOrRefused(t, repaired(other))
				if length > len(b)-at-4 {
					refused(t, "longer than what is left", repaired(other))
				}
			}
		}
	}
	last := slices.Concat(plain(usual(stun.Request))[:20], two(aSoftware), two(9), make([]byte, 8))
	refused(t, "the 0s are not there", relength(last))
}

func TestWhatFillsUpIs0(t *testing.T) {
	for n := 1; n < 8; n++ {
		for _, class := range classes {
			m := usual(class)
			m.Software = sized(n)
			b := plain(m)
			for at := len(b) - 8 - (4-n%4)%4; at < len(b)-8; at++ {
				for bit := range 8 {
					refused(t, "filled up", repaired(samples.Flipped(b, 8*at+bit)))
				}
			}
		}
	}
	b := text(273, slices.Concat(two(aCode), two(5), []byte{0, 0, 4, 20, 'x', 0, 0, 1}))
	refused(t, "behind a reason", b)
	b = text(273, part(aCode, 0, 0, 4, 20), slices.Concat(two(aUnknown), two(2), []byte{0, 2, 0, 1}))
	refused(t, "behind a number", b)
}

// Of all rows of up to four attributes, those are texts that the chapter's words make.
func TestRowsOfAttributes(t *testing.T) {
	parts := map[byte][]byte{
		'm': part(aMapped, address(api.Addr{Host: 7, Port: 6})...),
		'k': part(aCode, 0, 0, 4, 20),
		'c': part(aCode, 0, 0, 3, 1, 'r'),
		'n': part(aUnknown, 0, 5, 0x80, 0),
		'u': part(2),
		'v': part(0x7fff),
		's': part(aSoftware, 'a', 'b', 'c'),
		'f': part(aCrc, 0, 0, 0, 0),
		'w': part(32800),
	}
	may := map[int]*regexp.Regexp{
		stun.Request: regexp.MustCompile(`^[uv]*s?$`),
		stun.Answer:  regexp.MustCompile(`^m[uv]*s?$`),
		stun.Failure: regexp.MustCompile(`^(kn?|c)s?$`),
	}
	rows := []string{""}
	for begin := 0; len(rows[begin]) < 4; begin++ {
		for name := range parts {
			rows = append(rows, rows[begin]+string(name))
		}
	}
	for _, row := range rows {
		var all [][]byte
		for _, name := range []byte(row) {
			all = append(all, parts[name])
		}
		for _, class := range classes {
			b := text(typeOf[class], all...)
			m, e := stun.Decode(b)
			if !may[class].MatchString(row) {
				refused(t, row, b)
			} else if e != api.OK || !bytes.Equal(plain(m), b) || m.Class != class {
				t.Errorf("%s: got %+v, %v", row, m, e)
			}
		}
	}
}

func TestBytesOfAllSorts(t *testing.T) {
	for seed := range uint32(20000) {
		b := samples.Mixed(int(seed%120), seed)
		heardOrRefused(t, b)
		if len(b) >= 28 {
			copy(b, two([]int{1, 257, 273}[seed%3]))
			copy(b[4:], []byte{0x21, 0x12, 0xa4, 0x42})
			heardOrRefused(t, repaired(relength(b)))
		}
	}
	long := relength(append(plain(usual(stun.Request)), make([]byte, 65504)...))
	refused(t, "many empty attributes", repaired(long))
	for _, n := range []int{65535, 65536, 65556, 1 << 20} {
		refused(t, "long", append(plain(usual(stun.Request)), make([]byte, n)...))
	}
	refused(t, "a length that two bytes tell as 8", append(plain(usual(stun.Request)), make([]byte, 65536)...))
}

func TestWhatIsHandedStays(t *testing.T) {
	for _, m := range several() {
		before := slices.Clone(m.Unknown)
		room := append(make([]int, 0, 40), m.Unknown...)
		m.Unknown = room
		b, _ := stun.Encode(m)
		stun.Right(m)
		if !slices.Equal(room, before) || slices.ContainsFunc(room[len(room):40], func(n int) bool { return n != 0 }) {
			t.Errorf("it became %v", room[:40])
		}
		for i := range room {
			room[i] = 77
		}
		m.Unknown = before
		if !bytes.Equal(b, plain(m)) {
			t.Errorf("%+v: it became %x", m, b)
		}

		handed := append(make([]byte, 0, len(b)+40), b...)
		got, _ := stun.Decode(handed)
		if !bytes.Equal(handed, b) || !bytes.Equal(handed[:len(b)+40][len(b):], make([]byte, 40)) {
			t.Errorf("it became %x", handed[:len(b)+40])
		}
		for i := range handed {
			handed[i] = 0xee
		}
		if !areSame(got, m) {
			t.Errorf("got %+v, want %+v", got, m)
		}
	}
}

func TestWhatIsAnsweredIsTheCallers(t *testing.T) {
	for _, m := range several() {
		one, _ := stun.Encode(m)
		for i := range one {
			one[i] = 0xee
		}
		right(t, "again", m)

		heard, _ := stun.Decode(plain(m))
		for i := range heard.Unknown {
			heard.Unknown[i] = 77
		}
		right(t, "again", m)
		got, e := stun.Decode(plain(m))
		if e != api.OK || !areSame(got, m) {
			t.Errorf("got %+v, %v", got, e)
		}
	}
}

// What lies behind the bytes, within their capacity, is none of them.
func TestRoomBehindIsNotRead(t *testing.T) {
	for _, m := range several() {
		b := plain(m)
		for n := range b {
			refused(t, "cut off", b[:n:len(b)])
		}
	}
	b := text(1, part(aSoftware, 'h', 'i'))
	copy(b[22:], two(20))
	room := append(b, make([]byte, 40)...)
	refused(t, "longer than what is left", room[:len(b)])
}

func TestRefusedOnesLeaveNothing(t *testing.T) {
	m := full(stun.Answer)
	good := plain(m)
	for n := range 200 {
		stun.Decode(samples.Flipped(good, n))
		stun.Encode(stun.Message{Class: 1, Software: strconv.Itoa(n)})
		right(t, "behind a refused one", m)
	}
}
