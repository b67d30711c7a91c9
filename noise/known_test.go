package noise_test

import (
	"crypto/sha256"
	"encoding/hex"
	"fmt"
	"testing"

	"hatchway/api"
	"hatchway/noise"
	"hatchway/samples"
)

// rising answers a key of bytes that count up.
func rising(from byte) api.Key {
	var key api.Key
	for i := range key {
		key[i] = from + byte(i)
	}
	return key
}

// known is a hand of the tests of flynn/noise: first and second are what it tells behind what all of them tell alike.
type known struct {
	prologue, one, first, two, second, hash string
}

// The parts that are the same in all of them.
const (
	knownFirst  = "358072d6365880d1aeea329adf9121383851ed21a28e3b75e965d0d2cd166254c9f0dff42c86abe5677abe74f6c87301577dbc1f3ffb2213827ca694a057fdbb"
	knownSecond = "64b101b1d0be5a8704bd078f9895001fc03e8e9f9522f188dd128d9846d48466"
)

// ofFlynn answers all hands of this name that flynn/noise's vectors have; the hashes are what that program has behind them.
func ofFlynn() []known {
	return []known{
		{
			"", "", "ff7f7350265fe61102c24d7d7a7e960ba8b90a679895087c7d28b1d6703f9727",
			"", "22bf9c6171ddd4c8f682080b03504eee", "1f040cbbbdc1296330381dd15b09a2e18f6853f89ab69f380e526a6d4413fa3f",
		},
		{
			"", "test_msg_0", "ff7f7350265fe61102c24d7d7a7e960b7316fcb3b0687be852fd2fba8969816fbfaa8b459d0b59e8a42f",
			"test_msg_1", "7f1d8bd2b9b659695f9077e7062bb0b9e7c08fd627913be183c3", "714b66a33dbb037c4b0cc8cd34e032b0b8e8689d1baf9928acf8fa24351e4f58",
		},
		{
			"notsecret", "", "acac81d639bfae65c7827558f90acd27f14e182372e5bee2fa04eca3d32f09a9",
			"", "bbaba571a4d366dfe3958808b6a298f9", "eb42302e0ca8b7dc279db90694c02c040eeace4cb342d72507c96d4fd7c78ef5",
		},
		{
			"notsecret", "test_msg_0", "acac81d639bfae65c7827558f90acd277316fcb3b0687be852fd7e392456bb6cbe070c749f1bd7c55fc2",
			"test_msg_1", "7f1d8bd2b9b659695f90e35beaf5a5f5f1e7c83aa3194a2430cd", "fd8c17f7d6d8b73b420f5b344961dca512305bd0593a59f02c5d9e73ed51e8ec",
		},
	}
}

func TestKnownHands(t *testing.T) {
	k := keys{rising(0), rising(1), rising(0x20), rising(0x41)}
	for i, c := range ofFlynn() {
		what := fmt.Sprint("hand ", i)
		a, b := k.start([]byte(c.prologue)), k.answer([]byte(c.prologue))
		x, y := agree(t, what, a, b, []byte(c.one), []byte(c.two))
		answers(t, what+": First", x, api.OK, samples.Hex(knownFirst+c.first))
		answers(t, what+": Second", y, api.OK, samples.Hex(knownSecond+c.second))
		for side, h := range []*noise.Hand{a, b} {
			got := split(t, what, h)
			areSame(t, what+": the hash", got.hash, api.Key(samples.Hex(c.hash)))
			one, two := got.send, got.hear
			if side == 1 {
				one, two = two, one
			}
			sealed, e := one.Seal(nil, []byte("yellowsubmarine"))
			answers(t, what+": who started", sealed, e, samples.Hex("595694f9be48f03790f699455c84578b31d14a7baedfd736d73c53f66a5657"))
			sealed, e = two.Seal(nil, []byte("submarineyellow"))
			answers(t, what+": who answered", sealed, e, samples.Hex("621ae446b11fda3cf08e56102dac9324dee37a4e536cdc878e8b454d98bcf2"))
		}
	}
}

// A hundred hands of other keys, prologues and texts: the sum over all of them is what flynn/noise tells, and OpenSSL with Python's hmac and hashlib.
func TestManyHands(t *testing.T) {
	all := sha256.New()
	for seed := range uint32(100) {
		at, n, k := 10*seed, int(seed), keysOf(seed)
		prologue := samples.Mixed(7*n%200, at+5)
		a, b := k.start(prologue), k.answer(prologue)
		x, y := agree(t, fmt.Sprint("seed ", seed), a, b, samples.Mixed(13*n%300, at+6), samples.Mixed(17*n%300, at+7))
		got := split(t, "who started", a)
		for _, told := range [][]byte{x, y, got.hash[:], got.send.Key[:], got.hear.Key[:]} {
			all.Write(told)
		}
	}
	if got := hex.EncodeToString(all.Sum(nil)); got != "bd4bcfb309031ed55f21fda2e7068e2bc1c6dba48596866675136fc91624c6fa" {
		t.Errorf("got %s", got)
	}
}
