package digest

import (
	"sync"
	"sync/atomic"

	"pantry/api"
)

// Hasher is a digest that grows.
type Hasher struct {
	state [8]uint32       // of all full blocks
	rest  [blockSize]byte // what no full block holds yet: size modulo blockSize bytes
	size  atomic.Int64
	last  sync.Once
	told  bool // written by the last step alone
	sum   api.Hash
}

// New is one of nothing.
func New() *Hasher { return &Hasher{} }

// Write lays bytes behind the others; false: it is told already.
func (h *Hasher) Write(b []byte) bool {
	if h == nil || h.told {
		return false
	}
	h.start()
	held := h.held()
	h.size.Add(int64(len(b)))
	n := copy(h.rest[held:], b)
	if held+n < blockSize {
		return true
	}
	h.state = addBlocks(h.state, h.rest[:])
	b = b[n:]
	whole := wholeBlocks(b)
	h.state = addBlocks(h.state, b[:whole])
	copy(h.rest[:], b[whole:])
	return true
}

// Sum is the digest of all; from then on it stays.
func (h *Hasher) Sum() api.Hash {
	if h == nil {
		return api.Hash{}
	}
	// Several goroutines may ask at one time: one of them takes the step, the others wait for it.
	h.last.Do(func() {
		h.start()
		h.sum = lastStep(h.state, h.rest[:h.held()], h.size.Load())
		h.told = true
	})
	return h.sum
}

// Len is how many bytes there are.
func (h *Hasher) Len() int {
	if h == nil {
		return 0
	}
	return int(h.size.Load())
}

// start lays in the first state as long as there is no byte, so that a Hasher that New did not make is one of nothing too.
func (h *Hasher) start() {
	if h.size.Load() == 0 {
		h.state = firstState()
	}
}

// held is how many bytes rest holds.
func (h *Hasher) held() int { return int(h.size.Load() % blockSize) }
