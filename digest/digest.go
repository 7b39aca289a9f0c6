// Package digest is SHA-256: see DOC.md, chapter 1.
package digest

import "pantry/api"

// Sum is the digest of bytes.
func Sum(b []byte) api.Hash { return sumBehind(firstState(), 0, b) }

// Fold is a digest in twenty bytes.
func Fold(h api.Hash) [20]byte {
	var out [20]byte
	for i, b := range h {
		out[i%len(out)] ^= b
	}
	return out
}

// Mac is the digest of bytes under a key.
func Mac(key, b []byte) api.Hash {
	padded := padKey(key)
	inner := sumBehind(keyState(padded, 0x36), blockSize, b)
	return sumBehind(keyState(padded, 0x5c), blockSize, inner[:])
}

// padKey is a key in just as many bytes as a block has.
func padKey(key []byte) [blockSize]byte {
	var padded [blockSize]byte
	if len(key) > blockSize {
		short := Sum(key)
		copy(padded[:], short[:])
	} else {
		copy(padded[:], key)
	}
	return padded
}

// keyState is the state behind the one block of a key, each byte of it turned by mask.
func keyState(padded [blockSize]byte, mask byte) [8]uint32 {
	for i := range padded {
		padded[i] ^= mask
	}
	return addBlocks(firstState(), padded[:])
}
