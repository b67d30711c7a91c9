// Package samples makes the bytes that tests of several layers are fed with: no layer calls it.
package samples

import (
	"bytes"
	"strconv"
	"strings"

	"hatchway/api"
)

// Hex answers the bytes of a text to base sixteen, spaces aside; none, if it is not such a text.
func Hex(text string) []byte {
	text = strings.ReplaceAll(text, " ", "")
	out := make([]byte, 0, len(text)/2)
	for ; text != ""; text = text[2:] {
		if len(text) < 2 {
			return nil
		}
		n, err := strconv.ParseUint(text[:2], 16, 8)
		if err != nil {
			return nil
		}
		out = append(out, byte(n))
	}
	return out
}

// Mixed answers n bytes without a plain order, others for each seed.
func Mixed(n int, seed uint32) []byte {
	b := make([]byte, n)
	x := seed*2654435761 + 12345
	for i := range b {
		x = x*1664525 + 1013904223
		b[i] = byte(x >> 24)
	}
	return b
}

// Key answers a key of the seed.
func Key(seed uint32) api.Key {
	return api.Key(Mixed(len(api.Key{}), seed))
}

// Nonce answers a nonce of the seed.
func Nonce(seed uint32) api.ID {
	return api.ID(Mixed(len(api.ID{}), seed))
}

// Flipped answers b with one other bit.
func Flipped(b []byte, bit int) []byte {
	other := bytes.Clone(b)
	other[bit/8] ^= 1 << (bit % 8)
	return other
}

// Smalls answers each public key, its highest bit aside, with which nobody has a secret.
func Smalls() []api.Key {
	all := []api.Key{{}, {1}}
	for _, text := range []string{
		"e0eb7a7c3b41b8ae1656e3faf19fc46ada098deb9c32b1fd866205165f49b800",
		"5f9c95bca3508c24b1d0b1559c83ef5b04445cc4581c8e86d8224eddd09f1157",
		"ecffffffffffffffffffffffffffffffffffffffffffffffffffffffffffff7f",
		"edffffffffffffffffffffffffffffffffffffffffffffffffffffffffffff7f",
		"eeffffffffffffffffffffffffffffffffffffffffffffffffffffffffffff7f",
	} {
		all = append(all, api.Key(Hex(text)))
	}
	return all
}
