package frame_test

import (
	"bytes"
	"encoding/binary"
	"reflect"
	"slices"
	"testing"

	"hatchway/api"
	"hatchway/frame"
	"hatchway/samples"
)

// kinds are all that there are.
var kinds = []int{
	frame.Ping, frame.Pong, frame.Call, frame.Data, frame.First, frame.Second, frame.Sealed, frame.Register, frame.Welcome, frame.Relay,
}

// fields are what a frame of each kind has, by the chapter's words.
var fields = map[int][]string{
	frame.Ping:     {"ID"},
	frame.Pong:     {"ID", "Addr"},
	frame.Call:     {"Addrs"},
	frame.Data:     {"Data"},
	frame.First:    {"Data"},
	frame.Second:   {"Data"},
	frame.Sealed:   {"N", "Data"},
	frame.Register: {"Key"},
	frame.Welcome:  {"Addr"},
	frame.Relay:    {"Key", "Data"},
}

// most is how many bytes of data a frame has at most.
var most = map[int]int{frame.Data: 1000, frame.First: 1499, frame.Second: 1499, frame.Sealed: 1491, frame.Relay: 1467}

// address answers the bytes of an address.
func address(a api.Addr) []byte {
	return binary.BigEndian.AppendUint16(binary.BigEndian.AppendUint32(nil, a.Host), uint16(a.Port))
}

// plain answers the text of a frame that is right, as the chapter's words tell it.
func plain(f frame.Frame) []byte {
	b := []byte{byte(f.Kind)}
	for _, field := range fields[f.Kind] {
		switch field {
		case "ID":
			b = append(b, f.ID[:]...)
		case "Addr":
			b = append(b, address(f.Addr)...)
		case "Addrs":
			b = append(b, byte(len(f.Addrs)))
			for _, a := range f.Addrs {
				b = append(b, address(a)...)
			}
		case "N":
			b = binary.LittleEndian.AppendUint64(b, f.N)
		case "Key":
			b = append(b, f.Key[:]...)
		case "Data":
			b = append(b, f.Data...)
		}
	}
	return b
}

// plainly tells whether b is the text of a frame, by its length and, of a Call, by its count.
func plainly(b []byte) bool {
	if len(b) == 0 {
		return false
	}
	body := len(b) - 1
	switch int(b[0]) {
	case frame.Ping:
		return body == 12
	case frame.Pong:
		return body == 18
	case frame.Call:
		return body > 0 && b[1] <= 8 && body == 1+6*int(b[1])
	case frame.Data:
		return body <= 1000
	case frame.First, frame.Second:
		return body <= 1499
	case frame.Sealed:
		return body >= 8 && body <= 1499
	case frame.Register:
		return body == 32
	case frame.Welcome:
		return body == 6
	case frame.Relay:
		return body >= 32 && body <= 1499
	}
	return false
}

// areSame tells whether two frames are; lists may be nil or empty.
func areSame(a, b frame.Frame) bool {
	alike := slices.Equal(a.Addrs, b.Addrs) && bytes.Equal(a.Data, b.Data)
	a.Addrs, b.Addrs, a.Data, b.Data = nil, nil, nil, nil
	return alike && reflect.DeepEqual(a, b)
}

// right fails, unless f is right, and has its plain text, and is heard of it.
func right(t *testing.T, what string, f frame.Frame) {
	t.Helper()
	if !frame.Right(f) {
		t.Errorf("%s: not right: %+v", what, f)
	}
	b, e := frame.Encode(f)
	if want := plain(f); e != api.OK || !bytes.Equal(b, want) {
		t.Errorf("%s: %+v: got %x, %v, want %x", what, f, b, e, want)
	}
	heard(t, what, plain(f), f)
}

// heard fails, unless Decode answers f of b.
func heard(t *testing.T, what string, b []byte, f frame.Frame) {
	t.Helper()
	if got, e := frame.Decode(b); e != api.OK || !areSame(got, f) {
		t.Errorf("%s: %x: got %+v, %v, want %+v", what, b, got, e, f)
	}
}

// wrong fails, unless f is not right, and has no text.
func wrong(t *testing.T, what string, f frame.Frame) {
	t.Helper()
	if frame.Right(f) {
		t.Errorf("%s: right: %+v", what, f)
	}
	if b, e := frame.Encode(f); e != api.ErrArg || len(b) != 0 {
		t.Errorf("%s: %+v: got %x, %v", what, f, b, e)
	}
}

// refused fails, unless Decode answers no frame of b.
func refused(t *testing.T, what string, b []byte) {
	t.Helper()
	if f, e := frame.Decode(b); e != api.ErrForm || !areSame(f, frame.Frame{}) {
		t.Errorf("%s: %x: got %+v, %v", what, b, f, e)
	}
}

// rightIf fails, unless f is right just if it is to be so.
func rightIf(t *testing.T, what string, f frame.Frame, so bool) {
	t.Helper()
	if so {
		right(t, what, f)
	} else {
		wrong(t, what, f)
	}
}

// heardIf fails, unless b is the text of what it is heard as, or is refused, as it is to be.
func heardIf(t *testing.T, what string, b []byte, so bool) {
	t.Helper()
	if !so {
		refused(t, what, b)
		return
	}
	f, e := frame.Decode(b)
	if e != api.OK || !bytes.Equal(plain(f), b) {
		t.Errorf("%s: %x: got %+v, %v", what, b, f, e)
	}
	right(t, what, f)
}

// has tells whether frames of that kind have that field.
func has(kind int, field string) bool {
	return slices.Contains(fields[kind], field)
}

// full answers a right frame of a kind, that has nothing empty of what it may have.
func full(kind int) frame.Frame {
	f := frame.Frame{Kind: kind}
	for _, field := range fields[kind] {
		switch field {
		case "ID":
			f.ID = samples.Nonce(1)
		case "Addr":
			f.Addr = api.Addr{Host: 0xC0000201, Port: 32853}
		case "Addrs":
			f.Addrs = []api.Addr{{Host: 0x01020304, Port: 0x0506}, {Host: 0xfffefdfc, Port: 0xfbfa}, {Port: 1}}
		case "N":
			f.N = 0x0123456789abcdef
		case "Key":
			f.Key = samples.Key(2)
		case "Data":
			f.Data = samples.Mixed(40, 3)
		}
	}
	return f
}

// several answers frames of all sorts.
func several() []frame.Frame {
	var all []frame.Frame
	for _, kind := range kinds {
		all = append(all, frame.Frame{Kind: kind}, full(kind))
		for n := range 9 {
			f := full(kind)
			if has(kind, "Addrs") {
				f.Addrs = addresses(n)
			}
			if has(kind, "N") {
				f.N = 1 << (8 * n)
			}
			if has(kind, "Data") {
				f.Data = samples.Mixed(n*n, 7)
			}
			all = append(all, f)
		}
	}
	return all
}

// addresses answers n of them, no two alike.
func addresses(n int) []api.Addr {
	var all []api.Addr
	for i := range n {
		all = append(all, api.Addr{Host: 0x0a000001 + uint32(i), Port: 1000 * i})
	}
	return all
}

func TestExamples(t *testing.T) {
	for kind, size := range map[int]int{frame.Ping: 13, frame.Pong: 19} {
		for _, f := range []frame.Frame{{Kind: kind}, full(kind)} {
			if b, e := frame.Encode(f); e != api.OK || len(b) != size {
				t.Errorf("kind %d: got %x, %v", kind, b, e)
			}
			right(t, "example", f)
		}
	}
}

func TestKindsHaveTheirNumbers(t *testing.T) {
	if want := []int{1, 2, 3, 4, 5, 6, 7, 8, 9, 10}; !slices.Equal(kinds, want) {
		t.Errorf("they are %v", kinds)
	}
}

// These texts are written by hand, so that they hang on none of the functions here.
func TestTexts(t *testing.T) {
	id := api.ID(samples.Hex("a0a1a2a3a4a5a6a7a8a9aaab"))
	key := api.Key(samples.Hex("000102030405060708090a0b0c0d0e0f101112131415161718191a1b1c1d1e1f"))
	where := api.Addr{Host: 0x0a0b0c0d, Port: 0x0e0f}
	for _, c := range []struct {
		f    frame.Frame
		text string
	}{
		{frame.Frame{Kind: frame.Ping, ID: id}, "01 a0a1a2a3a4a5a6a7a8a9aaab"},
		{frame.Frame{Kind: frame.Pong, ID: id, Addr: where}, "02 a0a1a2a3a4a5a6a7a8a9aaab 0a0b0c0d 0e0f"},
		{frame.Frame{Kind: frame.Call}, "03 00"},
		{frame.Frame{Kind: frame.Call, Addrs: []api.Addr{where, {Host: 1, Port: 2}}}, "03 02 0a0b0c0d 0e0f 00000001 0002"},
		{frame.Frame{Kind: frame.Data}, "04"},
		{frame.Frame{Kind: frame.Data, Data: []byte("hello")}, "04 68656c6c6f"},
		{frame.Frame{Kind: frame.First, Data: []byte("a")}, "05 61"},
		{frame.Frame{Kind: frame.Second, Data: []byte{0, 0}}, "06 0000"},
		{frame.Frame{Kind: frame.Sealed, N: 0x0102030405060708, Data: []byte("z")}, "07 0807060504030201 7a"},
		{frame.Frame{Kind: frame.Register, Key: key}, "08 000102030405060708090a0b0c0d0e0f101112131415161718191a1b1c1d1e1f"},
		{frame.Frame{Kind: frame.Welcome, Addr: where}, "09 0a0b0c0d 0e0f"},
		{frame.Frame{Kind: frame.Relay, Key: key, Data: []byte{9}}, "0a 000102030405060708090a0b0c0d0e0f101112131415161718191a1b1c1d1e1f 09"},
	} {
		if b, e := frame.Encode(c.f); e != api.OK || !bytes.Equal(b, samples.Hex(c.text)) {
			t.Errorf("%+v: got %x, %v, want %s", c.f, b, e, c.text)
		}
		heard(t, "by hand", samples.Hex(c.text), c.f)
	}
}

func TestKinds(t *testing.T) {
	for kind := -300; kind < 300; kind++ {
		rightIf(t, "kind", frame.Frame{Kind: kind}, kind >= 1 && kind <= 10)
	}
	for _, kind := range []int{-1 << 63, -256 + 1, 1 << 8, 256 + 3, 1<<16 + 1, 1<<32 + 2, 1<<62 + 2, 1<<63 - 1} {
		wrong(t, "kind", frame.Frame{Kind: kind})
	}
	for _, kind := range []int{-1, 0, 11} {
		for _, whole := range kinds {
			f := full(whole)
			f.Kind = kind
			wrong(t, "no kind", f)
		}
	}
}

// Each field that a kind does not have is filled with what is next to empty, in each of its places.
func TestWhatAKindDoesNotHave(t *testing.T) {
	for _, kind := range kinds {
		for _, start := range []frame.Frame{{Kind: kind}, full(kind)} {
			for at := range 12 {
				f := start
				f.ID = api.ID{}
				f.ID[at] = 1
				rightIf(t, "ID", f, has(kind, "ID"))
			}
			for at := range 32 {
				f := start
				f.Key = api.Key{}
				f.Key[at] = 1
				rightIf(t, "Key", f, has(kind, "Key"))
			}
			for bit := range 32 {
				f := start
				f.Addr = api.Addr{Host: 1 << bit}
				rightIf(t, "Host", f, has(kind, "Addr"))
			}
			for bit := range 64 {
				f := start
				f.N = 1 << bit
				rightIf(t, "N", f, has(kind, "N"))
				f = start
				f.Addr = api.Addr{Port: 1 << bit}
				rightIf(t, "Port", f, has(kind, "Addr") && bit < 16)
			}
			f := start
			f.Addr = api.Addr{Port: -1}
			wrong(t, "Port", f)
			f = start
			f.Addrs = []api.Addr{{}}
			rightIf(t, "Addrs", f, has(kind, "Addrs"))
			f = start
			f.Data = []byte{0}
			rightIf(t, "Data", f, has(kind, "Data"))
		}
	}
}

func TestEmptyIsAsGoodAsNone(t *testing.T) {
	for _, kind := range kinds {
		for _, f := range []frame.Frame{{Kind: kind}, full(kind)} {
			if len(f.Addrs) == 0 {
				f.Addrs = []api.Addr{}
			}
			if len(f.Data) == 0 {
				f.Data = make([]byte, 0, 5)
			}
			right(t, "empty lists", f)
		}
	}
}

func TestPorts(t *testing.T) {
	for _, kind := range []int{frame.Pong, frame.Welcome} {
		f := full(kind)
		for port := -2; port <= 65538; port++ {
			f.Addr.Port = port
			rightIf(t, "port", f, port >= 0 && port <= 65535)
		}
		for _, port := range []int{-1 << 63, -1 << 32, -65536, 1<<32 + 1, 1 << 62, 1<<63 - 1} {
			f.Addr.Port = port
			wrong(t, "port", f)
		}
	}
}

func TestPortsOfACall(t *testing.T) {
	for many := 1; many <= 8; many++ {
		for at := range many {
			for _, port := range []int{-1 << 63, -65536, -1, 0, 1, 255, 256, 65534, 65535, 65536, 65537, 1<<32 + 1, 1<<63 - 1} {
				f := frame.Frame{Kind: frame.Call, Addrs: addresses(many)}
				f.Addrs[at].Port = port
				rightIf(t, "port", f, port >= 0 && port <= 65535)
			}
		}
	}
}

func TestHosts(t *testing.T) {
	for bit := range 32 {
		for _, host := range []uint32{0, 1 << bit, 1<<bit - 1, ^uint32(1 << bit)} {
			for _, kind := range []int{frame.Pong, frame.Welcome} {
				f := full(kind)
				f.Addr.Host = host
				right(t, "host", f)
			}
			f := full(frame.Call)
			f.Addrs[1].Host = host
			right(t, "host", f)
		}
	}
}

func TestHowManyAddresses(t *testing.T) {
	for n := range 60 {
		rightIf(t, "so many", frame.Frame{Kind: frame.Call, Addrs: addresses(n)}, n <= 8)
	}
	for n := range 300 {
		rightIf(t, "so many empty ones", frame.Frame{Kind: frame.Call, Addrs: make([]api.Addr, n)}, n <= 8)
	}
	wrong(t, "very many", frame.Frame{Kind: frame.Call, Addrs: make([]api.Addr, 1<<16+1)})
	alike := []api.Addr{{Host: 1, Port: 1}, {Host: 2, Port: 2}, {Host: 1, Port: 1}}
	right(t, "one that comes twice, in any order", frame.Frame{Kind: frame.Call, Addrs: alike})
}

func TestHowManyData(t *testing.T) {
	for _, kind := range kinds {
		f := full(kind)
		for n := range 1510 {
			f.Data = samples.Mixed(n, 4)
			rightIf(t, "so many", f, n <= most[kind])
		}
		f.Data = make([]byte, most[kind])
		right(t, "0s", f)
		for _, n := range []int{1 << 16, 1<<16 + 5, 1 << 20} {
			f.Data = make([]byte, n)
			wrong(t, "very many", f)
		}
	}
}

func TestGreatestFrames(t *testing.T) {
	for _, kind := range []int{frame.First, frame.Second, frame.Sealed, frame.Relay} {
		f := full(kind)
		f.Data = samples.Mixed(most[kind], 5)
		b, e := frame.Encode(f)
		if e != api.OK || len(b) != 1500 {
			t.Errorf("kind %d: got %d bytes, %v", kind, len(b), e)
		}
		refused(t, "1501 bytes", append(plain(f), 0))
	}
	f := frame.Frame{Kind: frame.Data, Data: make([]byte, 1000)}
	right(t, "1000 bytes of data", f)
	refused(t, "1001 bytes of data", append(plain(f), 0))
}

func TestNumbers(t *testing.T) {
	f := full(frame.Sealed)
	for bit := range 64 {
		for _, n := range []uint64{0, 1 << bit, 1<<bit - 1, ^uint64(1 << bit), -(1 << bit)} {
			f.N = n
			right(t, "number", f)
		}
	}
}

func TestIDsAndKeys(t *testing.T) {
	for seed := range uint32(50) {
		for _, kind := range []int{frame.Ping, frame.Pong} {
			f := full(kind)
			f.ID = samples.Nonce(seed)
			right(t, "ID", f)
		}
		for _, kind := range []int{frame.Register, frame.Relay} {
			f := full(kind)
			f.Key = samples.Key(seed)
			right(t, "Key", f)
		}
	}
}

func TestAllAtOnce(t *testing.T) {
	for _, f := range several() {
		right(t, "several", f)
	}
}

// Data may look like anything, a frame above all.
func TestDataOfAnyKind(t *testing.T) {
	for _, inner := range several() {
		for _, kind := range kinds {
			f := full(kind)
			f.Data = plain(inner)
			rightIf(t, "a frame in a frame", f, has(kind, "Data"))
		}
	}
}

func TestFirstBytes(t *testing.T) {
	refused(t, "nil", nil)
	refused(t, "empty", []byte{})
	for first := range 256 {
		for n := range 1510 {
			b := append([]byte{byte(first)}, make([]byte, n)...)
			heardIf(t, "0s", b, plainly(b))
		}
	}
}

func TestOtherLengths(t *testing.T) {
	for _, f := range several() {
		b := plain(f)
		for n := range b {
			heardIf(t, "cut off", b[:n], plainly(b[:n]))
		}
		for n := 1; n < 40; n++ {
			behind := append(bytes.Clone(b), samples.Mixed(n, 5)...)
			heardIf(t, "bytes behind", behind, plainly(behind))
		}
		if !has(f.Kind, "Data") {
			refused(t, "cut off", b[:len(b)-1])
			refused(t, "0 behind", append(bytes.Clone(b), 0))
			refused(t, "twice", append(bytes.Clone(b), b...))
		}
	}
}

// What has data is still short, if what stands ahead of them is.
func TestShortHeads(t *testing.T) {
	for kind, size := range map[int]int{
		frame.Ping: 13, frame.Pong: 19, frame.Call: 2, frame.Data: 1, frame.First: 1, frame.Second: 1,
		frame.Sealed: 9, frame.Register: 33, frame.Welcome: 7, frame.Relay: 33,
	} {
		b := plain(frame.Frame{Kind: kind})
		if len(b) != size {
			t.Errorf("kind %d: it has %d bytes", kind, len(b))
		}
		for n := range size {
			refused(t, "short", b[:n])
			refused(t, "short", plain(full(kind))[:n])
		}
		heard(t, "just enough", b, frame.Frame{Kind: kind})
	}
}

func TestCountsOfACall(t *testing.T) {
	for count := range 256 {
		for many := range 20 {
			for more := range 6 {
				b := slices.Concat([]byte{frame.Call, byte(count)}, samples.Mixed(6*many+more, 6))
				heardIf(t, "count", b, count == many && more == 0 && count <= 8)
			}
		}
		whole := slices.Concat([]byte{frame.Call, byte(count)}, make([]byte, 6*count))
		heardIf(t, "as many as told", whole, count <= 8)
		heardIf(t, "one less", whole[:len(whole)-1], false)
	}
}

func TestLongTexts(t *testing.T) {
	for first := range 256 {
		for _, n := range []int{1499, 1500, 1501, 1 << 16, 1<<16 + 13} {
			b := append([]byte{byte(first)}, samples.Mixed(n-1, 8)...)
			heardIf(t, "long", b, plainly(b))
		}
	}
}

func TestAllTextsOfTwoBytes(t *testing.T) {
	for n := range 1 << 16 {
		b := []byte{byte(n >> 8), byte(n)}
		heardIf(t, "two bytes", b, plainly(b))
		heardIf(t, "one byte", b[:1], plainly(b[:1]))
	}
}

func TestMixedTexts(t *testing.T) {
	for seed := range uint32(20000) {
		b := samples.Mixed(int(seed%60), seed)
		if len(b) > 0 {
			b[0] %= 12
		}
		heardIf(t, "mixed", b, plainly(b))
	}
}

// Another bit is another frame, or none; never the same one.
func TestOtherBitsAreOtherFrames(t *testing.T) {
	for _, f := range several() {
		b := plain(f)
		for bit := range 8 * len(b) {
			other := samples.Flipped(b, bit)
			heardIf(t, "bit", other, plainly(other))
			if got, e := frame.Decode(other); e == api.OK && areSame(got, f) {
				t.Errorf("bit %d of %x: got %+v", bit, b, got)
			}
		}
	}
}

func TestOneTextOfEachFrame(t *testing.T) {
	seen := map[string]bool{}
	for _, kind := range kinds {
		all := []frame.Frame{full(kind)}
		for _, other := range []func(f *frame.Frame){
			func(f *frame.Frame) { f.ID[0]++ },
			func(f *frame.Frame) { f.ID[11]++ },
			func(f *frame.Frame) { f.Addr.Host++ },
			func(f *frame.Frame) { f.Addr.Port++ },
			func(f *frame.Frame) { slices.Reverse(f.Addrs) },
			func(f *frame.Frame) { f.Addrs = f.Addrs[:min(2, len(f.Addrs))] },
			func(f *frame.Frame) { f.N++ },
			func(f *frame.Frame) { f.Key[0]++ },
			func(f *frame.Frame) { f.Key[31]++ },
			func(f *frame.Frame) { f.Data = append(f.Data, 0) },
			func(f *frame.Frame) { slices.Reverse(f.Data) },
		} {
			f := full(kind)
			other(&f)
			if frame.Right(f) && !areSame(f, full(kind)) {
				all = append(all, f)
			}
		}
		for _, f := range all {
			b, e := frame.Encode(f)
			if e != api.OK || seen[string(b)] {
				t.Errorf("%+v: got %x, %v", f, b, e)
			}
			seen[string(b)] = true
		}
	}
}

// others stands behind some texts, within their capacity.
const others = "somebody's"

// roomy answers b with bytes behind it that are somebody's.
func roomy(b []byte) []byte {
	return append(bytes.Clone(b), others...)[:len(b)]
}

// behind answers what a text of roomy has there.
func behind(b []byte) string {
	return string(b[len(b) : len(b)+len(others)])
}

func TestArgumentsStayAsTheyWere(t *testing.T) {
	for _, f := range several() {
		f.Data = roomy(f.Data)
		f.Addrs = append(slices.Clone(f.Addrs), api.Addr{Host: 77, Port: 88}, api.Addr{Host: 99})[:len(f.Addrs)]
		data, addrs := bytes.Clone(f.Data[:cap(f.Data)]), slices.Clone(f.Addrs[:cap(f.Addrs)])
		frame.Right(f)
		b, _ := frame.Encode(f)
		f.Kind = -1
		frame.Right(f)
		frame.Encode(f)
		if !bytes.Equal(f.Data[:cap(f.Data)], data) || !slices.Equal(f.Addrs[:cap(f.Addrs)], addrs) {
			t.Errorf("it became %+v", f)
		}
		b = roomy(b)
		whole := bytes.Clone(b[:cap(b)])
		frame.Decode(b)
		frame.Decode(b[:len(b)-1])
		if !bytes.Equal(b[:cap(b)], whole) {
			t.Errorf("it became %x", b[:cap(b)])
		}
	}
}

func TestArgumentsAreNotKept(t *testing.T) {
	for _, f := range several() {
		want := plain(f)
		f.Data, f.Addrs = bytes.Clone(f.Data), slices.Clone(f.Addrs)
		b, _ := frame.Encode(f)
		clear(f.Data)
		clear(f.Addrs)
		if !bytes.Equal(b, want) {
			t.Errorf("the text became %x, want %x", b, want)
		}
		text := bytes.Clone(want)
		got, _ := frame.Decode(text)
		clear(text)
		if !bytes.Equal(plain(got), want) {
			t.Errorf("the frame became %+v, want %x", got, want)
		}
	}
}

// Whoever writes over an answer, or behind it, writes over nothing else.
func TestAnswersAreTheCallers(t *testing.T) {
	for _, f := range several() {
		want := plain(f)
		f.Data, f.Addrs = roomy(f.Data), slices.Clone(f.Addrs)
		b, _ := frame.Encode(f)
		again, _ := frame.Encode(f)
		clear(b[:cap(b)])
		if !bytes.Equal(again, want) || !bytes.Equal(plain(f), want) {
			t.Errorf("they became %x and %+v, want %x", again, f, want)
		}
		text := roomy(want)
		one, _ := frame.Decode(text)
		two, _ := frame.Decode(text)
		clear(one.Data[:cap(one.Data)])
		clear(one.Addrs[:cap(one.Addrs)])
		if !bytes.Equal(text, want) || !bytes.Equal(plain(two), want) {
			t.Errorf("they became %x and %+v, want %x", text, two, want)
		}
		if behind(text) != others || behind(f.Data) != others {
			t.Errorf("behind them stand %q and %q", behind(text), behind(f.Data))
		}
	}
}

func TestSameCallsHaveTheSameAnswers(t *testing.T) {
	for _, f := range several() {
		for range 3 {
			right(t, "again", f)
			refused(t, "in between", []byte{0})
			wrong(t, "in between", frame.Frame{Kind: frame.Ping, N: 1})
		}
	}
}
