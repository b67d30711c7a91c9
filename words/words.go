// Package words is layer 1: numbers as bytes, and queues (shared/doc/01-words.md).
package words

import (
	"bytes"
	"math/bits"
)

// widest is how many bytes the greatest number takes.
const widest = 8

// crcTerms is the polynomial of IEEE 802.3, turned round, because each byte's lowest bit goes first.
const crcTerms = 0xEDB88320

// Put answers b and, behind it, the lowest size bytes of n (A1).
func Put(b []byte, size int, n uint64, big bool) []byte {
	size = min(max(size, 0), widest)
	// What lies behind b, within its capacity, is its owner's: so b is copied ahead of the append.
	out := make([]byte, len(b), len(b)+size)
	copy(out, b)
	for i := range size {
		out = append(out, byte(n>>shift(i, size, big)))
	}
	return out
}

// Get answers the number that size bytes of b tell from at on (A1).
func Get(b []byte, at, size int, big bool) (uint64, bool) {
	// The size is subtracted, not added to at, because a sum could wrap round.
	if size < 1 || size > widest || at < 0 || at > len(b)-size {
		return 0, false
	}
	n := uint64(0)
	for i, c := range b[at : at+size] {
		n |= uint64(c) << shift(i, size, big)
	}
	return n, true
}

// shift tells how many bits of a number of size bytes are below its byte i, as it is written.
func shift(i, size int, big bool) int {
	if big {
		i = size - 1 - i
	}
	return 8 * i
}

// Rot turns x to the left by n bits, whatever n is (A1).
func Rot(x uint32, n int) uint32 {
	return bits.RotateLeft32(x, n)
}

// Xor answers the bits in which a and b differ, as far as both go (A1).
func Xor(a, b []byte) []byte {
	out := make([]byte, min(len(a), len(b)))
	for i := range out {
		out[i] = a[i] ^ b[i]
	}
	return out
}

// Same tells whether a and b have the same length and the same bytes (A1).
func Same(a, b []byte) bool {
	return bytes.Equal(a, b)
}

// Crc answers the CRC32 of b (A1).
func Crc(b []byte) uint32 {
	crc := ^uint32(0)
	for _, c := range b {
		crc = crcByte(crc ^ uint32(c))
	}
	return ^crc
}

// crcByte divides the eight lowest bits out. No table of 256 words: the language allows none that large.
func crcByte(crc uint32) uint32 {
	for range 8 {
		odd := crc&1 == 1
		crc >>= 1
		if odd {
			crc ^= crcTerms
		}
	}
	return crc
}
