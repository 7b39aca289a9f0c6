package digest

import (
	"math/bits"

	"pantry/api"
)

// blockSize is how many bytes go into the state at one time, countSize how many at the very end tell the length.
const (
	blockSize = 64
	countSize = 8
)

// firstState is the state ahead of all blocks.
func firstState() [8]uint32 {
	return [8]uint32{
		0x6a09e667, 0xbb67ae85, 0x3c6ef372, 0xa54ff53a,
		0x510e527f, 0x9b05688c, 0x1f83d9ab, 0x5be0cd19,
	}
}

// roundNumbers is the document's K.
func roundNumbers() [64]uint32 {
	return [64]uint32{
		0x428a2f98, 0x71374491, 0xb5c0fbcf, 0xe9b5dba5, 0x3956c25b, 0x59f111f1, 0x923f82a4, 0xab1c5ed5,
		0xd807aa98, 0x12835b01, 0x243185be, 0x550c7dc3, 0x72be5d74, 0x80deb1fe, 0x9bdc06a7, 0xc19bf174,
		0xe49b69c1, 0xefbe4786, 0x0fc19dc6, 0x240ca1cc, 0x2de92c6f, 0x4a7484aa, 0x5cb0a9dc, 0x76f988da,
		0x983e5152, 0xa831c66d, 0xb00327c8, 0xbf597fc7, 0xc6e00bf3, 0xd5a79147, 0x06ca6351, 0x14292967,
		0x27b70a85, 0x2e1b2138, 0x4d2c6dfc, 0x53380d13, 0x650a7354, 0x766a0abb, 0x81c2c92e, 0x92722c85,
		0xa2bfe8a1, 0xa81a664b, 0xc24b8b70, 0xc76c51a3, 0xd192e819, 0xd6990624, 0xf40e3585, 0x106aa070,
		0x19a4c116, 0x1e376c08, 0x2748774c, 0x34b0bcb5, 0x391c0cb3, 0x4ed8aa4a, 0x5b9cca4f, 0x682e6ff3,
		0x748f82ee, 0x78a5636f, 0x84c87814, 0x8cc70208, 0x90befffa, 0xa4506ceb, 0xbef9a3f7, 0xc67178f2,
	}
}

// sumBehind is the digest of b behind so many bytes (whole blocks) that are in the state already.
func sumBehind(state [8]uint32, before int64, b []byte) api.Hash {
	whole := wholeBlocks(b)
	state = addBlocks(state, b[:whole])
	return lastStep(state, b[whole:], before+int64(len(b)))
}

// wholeBlocks is how many bytes of b are in blocks that are full.
func wholeBlocks(b []byte) int { return len(b) - len(b)%blockSize }

// lastStep is the digest of size bytes in all; rest is what of them is not in the state yet, less than a block.
func lastStep(state [8]uint32, rest []byte, size int64) api.Hash {
	var tail [2 * blockSize]byte
	n := copy(tail[:], rest)
	tail[n] = 0x80
	end := blockSize
	if n+1 > blockSize-countSize {
		end = 2 * blockSize
	}
	count := uint64(size) * 8
	for i := range countSize {
		tail[end-1-i] = byte(count >> (8 * i))
	}
	return stateBytes(addBlocks(state, tail[:end]))
}

// addBlocks is the state behind the blocks of b, all of them full.
func addBlocks(state [8]uint32, b []byte) [8]uint32 {
	k := roundNumbers()
	for ; len(b) >= blockSize; b = b[blockSize:] {
		w := schedule(b[:blockSize])
		mixed := mix(state, &k, &w)
		for i := range state {
			state[i] += mixed[i]
		}
	}
	return state
}

// schedule is the words w of one block.
func schedule(block []byte) [64]uint32 {
	var w [64]uint32
	for i := range 16 {
		w[i] = word(block[4*i : 4*i+4])
	}
	for i := 16; i < len(w); i++ {
		x, y := w[i-15], w[i-2]
		s0 := turn(x, 7) ^ turn(x, 18) ^ x>>3
		s1 := turn(y, 17) ^ turn(y, 19) ^ y>>10
		w[i] = w[i-16] + s0 + w[i-7] + s1
	}
	return w
}

// mix is the words a to h behind all rounds.
func mix(state [8]uint32, k, w *[64]uint32) [8]uint32 {
	a, b, c, d := state[0], state[1], state[2], state[3]
	e, f, g, h := state[4], state[5], state[6], state[7]
	for i := range 64 {
		t1 := h + (turn(e, 6) ^ turn(e, 11) ^ turn(e, 25)) + (e&f ^ ^e&g) + k[i] + w[i]
		t2 := (turn(a, 2) ^ turn(a, 13) ^ turn(a, 22)) + (a&b ^ a&c ^ b&c)
		h, g, f, e, d, c, b, a = g, f, e, d+t1, c, b, a, t1+t2
	}
	return [8]uint32{a, b, c, d, e, f, g, h}
}

// turn is the document's R: the library turns to the left only.
func turn(x uint32, n int) uint32 { return bits.RotateLeft32(x, -n) }

// word is four bytes as a word, the highest first.
func word(b []byte) uint32 {
	return uint32(b[0])<<24 | uint32(b[1])<<16 | uint32(b[2])<<8 | uint32(b[3])
}

// stateBytes is a state as bytes, the highest of each word first.
func stateBytes(state [8]uint32) api.Hash {
	var out api.Hash
	for i := range out {
		out[i] = byte(state[i/4] >> (24 - 8*(i%4)))
	}
	return out
}
