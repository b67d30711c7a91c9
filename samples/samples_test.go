package samples_test

import (
	"bytes"
	"encoding/hex"
	"testing"

	"hatchway/samples"
)

func TestHex(t *testing.T) {
	if got := samples.Hex("00 0aFF 80"); !bytes.Equal(got, []byte{0, 10, 255, 128}) {
		t.Errorf("got %x", got)
	}
	for _, text := range []string{"", " ", "0", "000", "0g", "+1", "0_1"} {
		if got := samples.Hex(text); len(got) != 0 {
			t.Errorf("%q: got %x", text, got)
		}
	}
}

// Sums over sealed samples are written down in tests: a sample must stay what it is.
func TestSamplesStayAsTheyAre(t *testing.T) {
	for _, n := range []int{0, 1, 8, 40} {
		got := hex.EncodeToString(samples.Mixed(n, 1))
		if want := "0aec7e0c07984adb"; got[:min(16, 2*n)] != want[:min(16, 2*n)] {
			t.Errorf("%d bytes: got %s", n, got)
		}
	}
	seen := map[string]bool{}
	for seed := range uint32(100) {
		key, nonce := samples.Key(seed), samples.Nonce(seed)
		if seen[string(key[:])] || !bytes.Equal(nonce[:], key[:12]) {
			t.Errorf("seed %d: key %x, nonce %x", seed, key, nonce)
		}
		seen[string(key[:])] = true
	}
}

func TestFlipped(t *testing.T) {
	b := []byte{1, 2}
	if got := samples.Flipped(b, 0); !bytes.Equal(got, []byte{0, 2}) {
		t.Errorf("got %x", got)
	}
	if got := samples.Flipped(b, 15); !bytes.Equal(got, []byte{1, 0x82}) {
		t.Errorf("got %x", got)
	}
	if !bytes.Equal(b, []byte{1, 2}) {
		t.Errorf("it became %x", b)
	}
}

// That they are no good, curve's tests tell.
func TestSmallsAreSevenKeys(t *testing.T) {
	seen := map[[32]byte]bool{}
	for _, key := range samples.Smalls() {
		seen[key] = true
		if key[31]&128 != 0 {
			t.Errorf("%x has the highest bit", key)
		}
	}
	if len(seen) != 7 {
		t.Errorf("they are %d", len(seen))
	}
}
