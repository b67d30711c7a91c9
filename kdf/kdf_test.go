package kdf_test

import (
	"bytes"
	"crypto/sha256"
	"encoding/hex"
	"fmt"
	"slices"
	"testing"

	"hatchway/api"
	"hatchway/blake"
	"hatchway/kdf"
	"hatchway/samples"
)

// three is what Derive answers.
type three [3]api.Key

// derive answers the three keys as one value.
func derive(key api.Key, b []byte) three {
	one, two, last := kdf.Derive(key, b)
	return three{one, two, last}
}

// bytesOf answers n times the same byte.
func bytesOf(b byte, n int) []byte {
	return bytes.Repeat([]byte{b}, n)
}

// rising answers n bytes, each one more than the one before it.
func rising(from byte, n int) []byte {
	b := make([]byte, n)
	for i := range b {
		b[i] = from + byte(i)
	}
	return b
}

// keyOf answers the key that begins with b, and has 0s behind it.
func keyOf(b []byte) api.Key {
	var key api.Key
	copy(key[:], b)
	return key
}

// invert turns all bits round.
func invert(b []byte) {
	for i := range b {
		b[i] ^= 0xff
	}
}

// nothings answers bytes of which there are none, with and without something behind them.
func nothings() [][]byte {
	return [][]byte{nil, {}, make([]byte, 0, 100), samples.Mixed(100, 1)[:0], samples.Mixed(100, 1)[100:]}
}

// lengths answers those just below, at and just above multiples of sixty-four, and some beside them.
func lengths() []int {
	return []int{0, 1, 2, 31, 32, 33, 62, 63, 64, 65, 66, 127, 128, 129, 191, 192, 193, 500}
}

// is fails, unless the key is the one that is wanted, to base sixteen.
func is(t *testing.T, what string, got api.Key, want string) {
	t.Helper()
	if hex.EncodeToString(got[:]) != want {
		t.Errorf("%s: got %x, want %s", what, got, want)
	}
}

// areSame fails, unless both are the same.
func areSame[T api.Key | three](t *testing.T, what string, got, want T) {
	t.Helper()
	if got != want {
		t.Errorf("%s: got %x, want %x", what, got, want)
	}
}

// The keys and texts are those of RFC 2104 and 4231, and some beside them; the answers are what Python's hmac and OpenSSL tell.
func TestMacOfKnownTexts(t *testing.T) {
	for _, c := range []struct {
		name   string
		key, b []byte
		want   string
	}{
		{"nothing", nil, nil, "eaf4bb25938f4d20e72656bbbc7a9bf63c0c18537333c35bdb67db1402661acd"},
		{"no key", nil, []byte("abc"), "4a79a31b10a8c34b7c89735b8088e6b810b4bad4f36d671b65ca2ea0914952bf"},
		{"no bytes", []byte("key"), nil, "67148074efc0f6741b474ef81c4d98d266e880d372fe723d2569b1d414d234be"},
		{"the fox", []byte("key"), []byte("The quick brown fox jumps over the lazy dog"), "f93215bb90d4af4c3061cd932fb169fb8bb8a91d0b4022baea1271e1323cd9a0"},
		{"2104, 1", bytesOf(0x0b, 16), []byte("Hi There"), "139cd736b926dae4853aab90655120e0305c476fde978166e472c7c8698c21b1"},
		{"4231, 1", bytesOf(0x0b, 20), []byte("Hi There"), "65a8b7c5cc9136d424e82c37e2707e74e913c0655b99c75f40edf387453a3260"},
		{"4231, 2", []byte("Jefe"), []byte("what do ya want for nothing?"), "90b6281e2f3038c9056af0b4a7e763cae6fe5d9eb4386a0ec95237890c104ff0"},
		{"4231, 3", bytesOf(0xaa, 20), bytesOf(0xdd, 50), "fcc4f59529502e34c3d8da3ffdab82966a2cb637ff5e9bd701135c2e9469e790"},
		{"4231, 4", rising(1, 25), bytesOf(0xcd, 50), "464434dcbece095d456a1d62d6ec56f898e625a39e5c52bdf94daf111bad83aa"},
		{"4231, 6", bytesOf(0xaa, 131), []byte("Test Using Larger Than Block-Size Key - Hash Key First"), "d23d79394f53d536a096e6514447eeaabb05ded01be32c1937da6a8f7103bc4e"},
		{"4231, 7", bytesOf(0xaa, 131), []byte("This is a test using a larger than block-size key and a larger than block-size data. The key needs to be hashed before being used by the HMAC algorithm."), "cb60f6a791f140bf8aa2e51ff358cdb2cc5c0333045b7fb77aba7ab3b0cfb237"},
	} {
		is(t, c.name, kdf.Mac(c.key, c.b), c.want)
	}
}

// Of each length the key has the length as its seed too.
func TestMacOfKeysOfManyLengths(t *testing.T) {
	for n, want := range map[int]string{
		0:     "4ed949f82e80f4c5d7d2f823b6158dca666fcd3ae00ce313906f3e0e2e9bfea6",
		1:     "8502766190113c96950be9493d5e86cc9b79c6b87c041fb375a4163e35566776",
		31:    "61902623183ddb64d7f188e2a9460e8841275f043da68cd23348ea4010c49619",
		32:    "946837dc719a3b9a81251ea3353bcd7ac820696089b4bb599ec71b6f3ea6d348",
		33:    "1a64eb2b34864e1ac703fb5e986cd6659b29e449e5a57330688057f2661d5a9d",
		62:    "e761a9b0089a5ed4a4a3e0cf22a7bcea77ceec20f6f31f11faac1607147093f7",
		63:    "650487c5d5fd4b635c419643027160e497817a38a0a5b447ef30ff051c7a664b",
		64:    "8b1cb8f614e7f80683494cdad80bc77677d02b9a7b7f693ee13027641a730eff",
		65:    "f5d7bf05ada2752951339128b81862e49fe695eafb089351838275c38e6b1a70",
		66:    "a8a9443e8b6647dd133b0f1b14cbdfd847d43f28adf1c037eeaee5fa6fd474cc",
		127:   "186dadc2dc03729e711fdf4f83575682f6a977df89ee8d289d3f2eefdb1e169a",
		128:   "e68f64f1938a3e571c674ee59195cd4fde4298a6fa2b6b9cae0db719e5832bd3",
		129:   "967f83eaf517a2e8d631be6afc443a79d0cd9d8ed60c93e158e1b0a7ef07792d",
		1000:  "5ffc069a55d5c30d7011c25a8ad3c507f6fa68352ca62b0a7fbe714960335697",
		65536: "0acb1e0c46d6740b72880e2602c57a9fc5aaf0101d4d7286883bb881faf0be88",
	} {
		is(t, fmt.Sprint("a key of ", n), kdf.Mac(samples.Mixed(n, uint32(n)), []byte("text")), want)
	}
}

// Of each length the bytes have the length as their seed too.
func TestMacOfBytesOfManyLengths(t *testing.T) {
	key := samples.Key(1)
	for n, want := range map[int]string{
		0:     "0cecf3ad36b2a73d7b53e3c1cdd1b8a6948e26895da31cdeaee792f44497ad05",
		1:     "6759e8be465dd24c2aeae804edc89747c54a6b1c18e499fe4ed96e71781e9608",
		31:    "b326a1aee91a75476b6b2892fee49cc6b15147caf722196842e8c645a342be1a",
		32:    "0fe91ef62d1f53866c5e0897d31ee2d9a3732b154c98eba4f0e3d3c4057166fb",
		33:    "2327e9cbb52fdcbc5381cf6e8969c6aa20536d1d4c2589b27b5107f31122745d",
		62:    "3dcdb5df8a8f1e731338c80bcd3e948e6c1a1008d4606f59c7d2d19377692a55",
		63:    "05437782dccb92a0b0bfff10e130cd50c33a31c2d441cb93039e2e7b6ecd2fb2",
		64:    "104466d3e81f9ba4536921bf89033cf5ed8a11c0d9df2369025646e4b6b9c5bc",
		65:    "424aba25a0182c97458b822d4d1ebe8b005e5aa6e461cf511593b0bd68e05dc9",
		66:    "5536a417566ac1f15a171a341b1b27c772facce249c0999309368c785e60c9b7",
		127:   "03daebd62aac8b58a0fbfedb06bd578f9cb84e8b9ab9e711394c41180afd2d06",
		128:   "4d6e40a089b6a4cc8fbffe745d2f1cae28b3e6b11eadbdb590f8682a841c06d1",
		129:   "6444353944b6a9b1b3da7011397c390aa426c654c706403d79fb16f7e22675a3",
		191:   "1c69e3e9156699eba8ea66eb05e546612257b3903b916cc788bc1db9ee3da98b",
		192:   "b0f61e6a8a9c0631ff4802453af918ea875636aa964f15dce3c41d17c5130bfe",
		193:   "3b85b5aeb9508996c4855ba6a48503a87d317bc3cc00ef3f176c9644782760f0",
		1000:  "ad5067e86dc53f3282fe8a3a0efac56d6b24320b72f558bfc84dd4d68d0bd2ca",
		65536: "0a7a0e7feb54bc78707243eeeaf859cefb280eb94870227af6d642a768cf00d2",
	} {
		is(t, fmt.Sprint(n, " bytes"), kdf.Mac(key[:], samples.Mixed(n, uint32(n))), want)
	}
}

// What another program tells of keys of all lengths, with bytes of many, as one sum over all of them.
func TestMacOfAllLengths(t *testing.T) {
	all := sha256.New()
	for k := range 200 {
		for _, n := range []int{0, 1, 31, 32, 33, 63, 64, 65, 127, 128, 129, 200} {
			got := kdf.Mac(samples.Mixed(k, uint32(k)), samples.Mixed(n, uint32(n)))
			all.Write(got[:])
		}
	}
	if got := hex.EncodeToString(all.Sum(nil)); got != "f9f3c8f84553bdf0754b17a9b194f42e6db28d73016370897652cb52e41e36f9" {
		t.Errorf("got %s", got)
	}
}

func TestMacOfNothing(t *testing.T) {
	for i, key := range nothings() {
		is(t, fmt.Sprint("no key ", i), kdf.Mac(key, []byte("abc")), "4a79a31b10a8c34b7c89735b8088e6b810b4bad4f36d671b65ca2ea0914952bf")
		for j, b := range nothings() {
			is(t, fmt.Sprint("no key ", i, ", no bytes ", j), kdf.Mac(key, b), "eaf4bb25938f4d20e72656bbbc7a9bf63c0c18537333c35bdb67db1402661acd")
		}
	}
	for j, b := range nothings() {
		is(t, fmt.Sprint("no bytes ", j), kdf.Mac([]byte("key"), b), "67148074efc0f6741b474ef81c4d98d266e880d372fe723d2569b1d414d234be")
	}
}

func TestAKeyFilledWithZerosIsTheSame(t *testing.T) {
	b := samples.Mixed(100, 2)
	for n := range 65 {
		key := samples.Mixed(n, uint32(n))
		want := kdf.Mac(key, b)
		for more := range 65 - n {
			filled := slices.Concat(key, make([]byte, more))
			areSame(t, fmt.Sprint(n, " bytes and ", more, " zeros"), kdf.Mac(filled, b), want)
		}
		// One more is too many: now it is told by its sum.
		if over := slices.Concat(key, make([]byte, 65-n)); kdf.Mac(over, b) == want {
			t.Errorf("%d bytes: zeros beyond 64 do not count", n)
		}
	}
}

func TestALongKeyIsAsItsSum(t *testing.T) {
	b := samples.Mixed(100, 3)
	for _, n := range []int{65, 66, 96, 127, 128, 129, 192, 193, 1000, 100000} {
		key := samples.Mixed(n, uint32(n))
		sum := blake.Sum(key)
		areSame(t, fmt.Sprint("a key of ", n), kdf.Mac(key, b), kdf.Mac(sum[:], b))
		areSame(t, fmt.Sprint("a key of ", n, ", its sum filled"), kdf.Mac(key, b), kdf.Mac(slices.Concat(sum[:], make([]byte, 32)), b))
	}
	// One of 64 bytes has room, so that it is as its sum no more than a shorter one.
	for _, n := range []int{0, 1, 32, 63, 64} {
		key := samples.Mixed(n, uint32(n))
		if sum := blake.Sum(key); kdf.Mac(key, b) == kdf.Mac(sum[:], b) {
			t.Errorf("a key of %d is as its sum", n)
		}
	}
}

// The two sums that the section writes down, each made of one list of bytes.
func TestMacIsTheSumsThatAreAskedFor(t *testing.T) {
	for _, k := range lengths() {
		key := samples.Mixed(k, 4)
		filled := make([]byte, 64)
		if copy(filled, key); k > 64 {
			sum := blake.Sum(key)
			copy(filled, slices.Concat(sum[:], make([]byte, 32)))
		}
		inner, outer := make([]byte, 64), make([]byte, 64)
		for i, v := range filled {
			inner[i], outer[i] = v^0x36, v^0x5c
		}
		for _, n := range lengths() {
			b := samples.Mixed(n, 5)
			sum := blake.Sum(slices.Concat(inner, b))
			areSame(t, fmt.Sprint("a key of ", k, ", ", n, " bytes"), kdf.Mac(key, b), blake.Sum(slices.Concat(outer, sum[:])))
		}
	}
}

func TestEachBitOfAMacCounts(t *testing.T) {
	b := samples.Mixed(70, 6)
	for _, n := range []int{32, 64, 65, 100} {
		key := samples.Mixed(n, 7)
		seen := map[api.Key]string{kdf.Mac(key, b): "none"}
		see := func(what string, got api.Key) {
			if other, ok := seen[got]; ok {
				t.Errorf("a key of %d: %s counts as %s", n, what, other)
			}
			seen[got] = what
		}
		for bit := range 8 * n {
			see(fmt.Sprint("bit ", bit, " of the key"), kdf.Mac(samples.Flipped(key, bit), b))
		}
		for bit := range 8 * len(b) {
			see(fmt.Sprint("bit ", bit, " of the bytes"), kdf.Mac(key, samples.Flipped(b, bit)))
		}
	}
}

// The key is filled up: where it ends and the bytes begin is kept apart.
func TestTheKeyAndTheBytesAreKeptApart(t *testing.T) {
	whole := samples.Mixed(150, 8)
	seen := map[api.Key]int{}
	for at := range len(whole) + 1 {
		got := kdf.Mac(whole[:at], whole[at:])
		if other, ok := seen[got]; ok {
			t.Errorf("a key of %d is as one of %d", at, other)
		}
		seen[got] = at
	}
}

// Those with short keys are of the tests of wireguard-go; all are what Python's hmac and OpenSSL's HKDF (without info) tell.
func TestDeriveOfKnownKeys(t *testing.T) {
	for _, c := range []struct {
		name string
		key  api.Key
		b    []byte
		want string
	}{
		{"no key, no bytes", api.Key{}, nil,
			"8387b46bf43eccfcf349552a095d8315c4055beb90208fb1be23b894bc2ed5d0 58a0e5f6faefccf4807bff1f05fa8a9217945762040bcec2f4b4a62bdfe0e86e 0ce6ea98ec548f8e281e93e32db65621c45eb18dc6f0a7ad94178610a2f7338e"},
		{"test-key", keyOf([]byte("test-key")), []byte("test-input"),
			"6f0e5ad38daba1bea8a0d213688736f19763239305e0f58aba697f9ffc41c633 df1194df20802a4fe594cde27e92991c8cae66c366e8106aaa937a55fa371e8a fac6e2745a325f5dc5d11a5b165aad08b0ada28e7b4e666b7c077934a4d76c24"},
		{"wireguard", keyOf([]byte("wireguard")), []byte("wireguard"),
			"491d43bbfdaa8750aaf535e334ecbfe5129967cd64635101c566d4caefda96e8 1e71a379baefd8a79aa4662212fcafe19a23e2b609a3db7d6bcba8f560e3d25f 31e1ae48bddfbe5de38f295e5452b1909a1b4e38e183926af3780b0c1e1f0160"},
		{"zeros", api.Key{}, make([]byte, 32),
			"1090894613df8aef670b0b867e222daebc0d3e436cdddbc16c65855ab93cc91a c6a3d4cc7ae7a7b416efc56e9bad2e9bb99c0db185cc1f8b4f97a77333fa7564 339cfba06a94d50714247a193746fa3a89b64778e751be70f1a5bf99ef12a39b"},
		{"no bytes", keyOf(rising(0, 32)), nil,
			"7a38c34bf2b8738d7374ca77c44ecb309a11d2b2528304fa86052c365e722624 1a17621f346abdc520746a9fb64d8eb03231d674fc15687537b0780fd9c060fd 4eaf02809ac4b930ef63479de62275f1c55656e61f78a3cc653c18a2223d6c5f"},
		{"a name of Noise", blake.Sum([]byte("Noise_IK_25519_ChaChaPoly_BLAKE2s")), rising(0, 32),
			"d6c8db9d60f7cc6250043f8765ad17667f831b9294262a60d9d6fa92b75771c7 872d10ac2deb53cbebb2f567005133f16b3918b6d57fd1a6f1121a4715abb144 279a03f7a7acfaaee26c7fc89e380109903358186886f5ad3c6aaa14381beea2"},
		{"a text", samples.Key(1), []byte("text"),
			"53747c822eedbc2f1fcd31e22ee024440b6bc61662e46fde862b4e3aa251195b 1b48d8a54e5123fb2817d8b0f09f8dc05ad1f386b1f1eb1e1e8f990495484ce0 82d25f731d7f96dcf810be072252091f190871e1461f96ff55c7dac3e7a4c4f1"},
		{"63 bytes", samples.Key(2), samples.Mixed(63, 63),
			"76ba9b99c4320f16a3683c416e029173061c2775b424d4539f89790932bfde48 dee83669180e3c82f9c2dd58b85657c54e70829c927748592c684dfda619df0b f3fef79813252ff7b1b83087f42ccb3c99964a09f2a447658a86771102a91342"},
		{"64 bytes", samples.Key(2), samples.Mixed(64, 64),
			"30da93721781a711f41655506962fc2d5fa776fe97c50a6b498ef16b76666405 ae475de7d60a3144c18a092b5dd7761afd9a5382b92d05c687fd6eb880861a19 0644cdf071000880c4c9a3b78e77b633d1074e77465af01dcfcbaaeabaa5c67d"},
		{"65 bytes", samples.Key(2), samples.Mixed(65, 65),
			"2d64b6717b1d2d75881b7b679dabfa016360660793fbd1406d25f9eee1294032 7a94b427cf98a50e282e05fd7076221390c118eeefbf2a9ef2988e8dceaa20b7 e023ba28b96cf6cf9ec77d0937ff18a41788246671e8eebbc5d5ffad62cf9694"},
		{"1000 bytes", samples.Key(2), samples.Mixed(1000, 1000),
			"8d8e6e1267659df2dd8e3e7ce7e676c16ec0e82aaecd4c87724cf0c5a8991f3d 670354aa9bbe0317cbc99d0105b7f1836727fd30a03e969ccadcb18a9432ac1b e7680de122f2cd07bd82eacd9a193c795a79e7c114084812d46cdf9753a69a75"},
	} {
		got := derive(c.key, c.b)
		want := samples.Hex(c.want)
		if told := slices.Concat(got[0][:], got[1][:], got[2][:]); !bytes.Equal(told, want) || len(want) != 96 {
			t.Errorf("%s: got %x, want %x", c.name, told, want)
		}
	}
}

// What another program tells of each length, as one sum over all of them.
func TestDeriveOfAllLengths(t *testing.T) {
	all := sha256.New()
	for n := range 300 {
		for _, key := range derive(samples.Key(uint32(n)), samples.Mixed(n, uint32(n))) {
			all.Write(key[:])
		}
	}
	if got := hex.EncodeToString(all.Sum(nil)); got != "76edd360cb2ea1bbd9d6130b84c79516e7caf13a45528876efec051ec9e5753b" {
		t.Errorf("got %s", got)
	}
}

func TestEachKeyOfDeriveIsTheMacThatIsAskedFor(t *testing.T) {
	for _, n := range lengths() {
		key, b := samples.Key(uint32(n)), samples.Mixed(n, 9)
		mac := kdf.Mac(key[:], b)
		one := kdf.Mac(mac[:], []byte{1})
		two := kdf.Mac(mac[:], slices.Concat(one[:], []byte{2}))
		last := kdf.Mac(mac[:], slices.Concat(two[:], []byte{3}))
		areSame(t, fmt.Sprint(n, " bytes"), derive(key, b), three{one, two, last})
	}
}

func TestDeriveOfNothing(t *testing.T) {
	for _, key := range []api.Key{{}, samples.Key(10)} {
		want := derive(key, nil)
		for i, b := range nothings() {
			areSame(t, fmt.Sprint("no bytes ", i), derive(key, b), want)
		}
		// A byte 0 is more than no byte.
		if derive(key, []byte{0}) == want {
			t.Error("a byte 0 does not count")
		}
	}
}

func TestEachBitOfDeriveCounts(t *testing.T) {
	key, b := samples.Key(11), samples.Mixed(70, 12)
	seen := map[api.Key]string{}
	see := func(what string, got three) {
		for i, k := range got {
			if other, ok := seen[k]; ok {
				t.Errorf("%s: key %d is one of %s", what, i+1, other)
			}
			seen[k] = what
		}
	}
	see("none", derive(key, b))
	for bit := range 8 * len(key) {
		see(fmt.Sprint("bit ", bit, " of the key"), derive(api.Key(samples.Flipped(key[:], bit)), b))
	}
	for bit := range 8 * len(b) {
		see(fmt.Sprint("bit ", bit, " of the bytes"), derive(key, samples.Flipped(b, bit)))
	}
}

func TestWhatIsHandedInStaysAsItWas(t *testing.T) {
	for _, k := range lengths() {
		for _, n := range lengths() {
			// Room behind the bytes: to fill the key, or to put a sum there, would write over it.
			key, b := samples.Mixed(700, 13), samples.Mixed(700, 14)
			kdf.Mac(key[:k], b[:n])
			kdf.Derive(samples.Key(15), b[:n])
			if !bytes.Equal(key, samples.Mixed(700, 13)) {
				t.Errorf("a key of %d became %x", k, key)
			}
			if !bytes.Equal(b, samples.Mixed(700, 14)) {
				t.Errorf("%d bytes became %x", n, b)
			}
		}
	}
	key := samples.Key(16)
	kdf.Mac(key[:], key[:])
	kdf.Derive(key, key[:])
	areSame(t, "a key that is the bytes too", key, samples.Key(16))
}

func TestWhatLiesBehindTheBytesDoesNotCount(t *testing.T) {
	for _, n := range lengths() {
		one, two := samples.Mixed(700, 17), samples.Mixed(700, 17)
		invert(two[n:])
		areSame(t, fmt.Sprint("behind a key of ", n), kdf.Mac(one[:n], []byte("text")), kdf.Mac(two[:n], []byte("text")))
		areSame(t, fmt.Sprint("behind ", n, " bytes"), kdf.Mac([]byte("key"), one[:n]), kdf.Mac([]byte("key"), two[:n]))
		areSame(t, fmt.Sprint("behind ", n, " bytes, derived"), derive(samples.Key(18), one[:n]), derive(samples.Key(18), two[:n]))
	}
}

// The key and the bytes may be one list, or parts of one.
func TestTheKeyAndTheBytesMayLieTogether(t *testing.T) {
	whole := samples.Mixed(200, 19)
	for _, n := range []int{0, 32, 64, 65, 200} {
		areSame(t, fmt.Sprint("all of ", n), kdf.Mac(whole[:n], whole[:n]), kdf.Mac(bytes.Clone(whole[:n]), bytes.Clone(whole[:n])))
		areSame(t, fmt.Sprint(n, " and the rest"), kdf.Mac(whole[:n], whole[n:]), kdf.Mac(bytes.Clone(whole[:n]), bytes.Clone(whole[n:])))
	}
	key := samples.Key(20)
	areSame(t, "of its own bytes", derive(key, key[:]), derive(key, samples.Mixed(32, 20)))
}

func TestAnAnswerIsTheCallers(t *testing.T) {
	key, b := samples.Key(21), samples.Mixed(100, 22)
	mac, keys := kdf.Mac(key[:], b), derive(key, b)
	for range 3 {
		got, of := kdf.Mac(key[:], b), derive(key, b)
		areSame(t, "a mac", got, mac)
		areSame(t, "three keys", of, keys)
		invert(got[:])
		for i := range of {
			invert(of[i][:])
		}
	}
}

func TestTheSameCallsHaveTheSameAnswers(t *testing.T) {
	key, b := samples.Mixed(100, 23), samples.Mixed(170, 24)
	mac, keys := kdf.Mac(key, b), derive(samples.Key(25), b)
	for seed := range uint32(20) {
		// Calls between them must not count.
		kdf.Mac(samples.Mixed(int(seed)*9, seed), samples.Mixed(int(seed)*13, seed))
		kdf.Derive(samples.Key(seed), samples.Mixed(int(seed)*7, seed))
		areSame(t, "a mac", kdf.Mac(key, b), mac)
		areSame(t, "three keys", derive(samples.Key(25), b), keys)
	}
}
