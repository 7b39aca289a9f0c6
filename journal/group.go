package journal

import (
	"bytes"
	"iter"
	"sync"

	"pantry/api"
	"pantry/digest"
)

const (
	numberSize = 3 // bytes: no length is as great as 2^24
	sumSize    = len(api.Hash{})
)

// group is records that were committed together. In a file it is how many there are, each one behind its length,
// and the digest.
type group struct {
	ahead   *group // nil: it is the first one
	records [][]byte
	once    sync.Once
	sum     api.Hash
}

// digest is that of the records and of the group ahead, so that a group is found where it was laid alone.
func (g *group) digest() api.Hash {
	if g == nil {
		return api.Hash{}
	}
	// The next group asks for it once more.
	g.once.Do(func() {
		h := digest.New()
		ahead := g.ahead.digest()
		h.Write(ahead[:])
		for p := range g.pieces() {
			h.Write(p)
		}
		g.sum = h.Sum()
	})
	return g.sum
}

// encoded is what lies in a file.
func (g *group) encoded() []byte {
	b := make([]byte, 0, numberSize*(1+len(g.records))+g.weight()+sumSize)
	for p := range g.pieces() {
		b = append(b, p...)
	}
	sum := g.digest()
	return append(b, sum[:]...)
}

// pieces is what lies in a file ahead of the digest.
func (g *group) pieces() iter.Seq[[]byte] {
	return func(yield func([]byte) bool) {
		if !yield(number(len(g.records))) {
			return
		}
		for _, p := range g.records {
			if !yield(number(len(p))) || !yield(p) {
				return
			}
		}
	}
}

// weight is how many bytes all records have.
func (g *group) weight() int {
	sum := 0
	for _, p := range g.records {
		sum += len(p)
	}
	return sum
}

// copied is the records in new memory.
func (g *group) copied() [][]byte {
	all := make([][]byte, len(g.records))
	for i, p := range g.records {
		all[i] = bytes.Clone(p)
	}
	return all
}

// readGroups is some groups and those with which bytes begin, and how many bytes these have.
func readGroups(groups []*group, b []byte) ([]*group, int) {
	at := 0
	for {
		g, size := readGroup(last(groups), b[at:])
		if g == nil {
			return groups, at
		}
		groups = append(groups, g)
		at += size
	}
}

// readGroup is the group behind another one with which bytes begin, and how many bytes it has; or nil.
func readGroup(ahead *group, b []byte) (*group, int) {
	count, rest, ok := cutNumber(b)
	if !ok {
		return nil, 0
	}
	g := &group{ahead: ahead}
	for range count {
		var p []byte
		if p, rest, ok = cutRecord(rest); !ok {
			return nil, 0
		}
		g.records = append(g.records, bytes.Clone(p))
	}
	if len(rest) < sumSize || api.Hash(rest[:sumSize]) != g.digest() {
		return nil, 0
	}
	return g, len(b) - len(rest) + sumSize
}

// cutRecord is the record with which bytes begin, and what is behind it.
func cutRecord(b []byte) (p, rest []byte, ok bool) {
	n, rest, ok := cutNumber(b)
	if !ok || n > len(rest) {
		return nil, nil, false
	}
	return rest[:n], rest[n:], true
}

// cutNumber is the number with which bytes begin, and what is behind it.
func cutNumber(b []byte) (n int, rest []byte, ok bool) {
	if len(b) < numberSize {
		return 0, nil, false
	}
	for _, x := range b[:numberSize] {
		n = n<<8 | int(x)
	}
	return n, b[numberSize:], true
}

// number is the bytes of one, the highest first.
func number(n int) []byte {
	return []byte{byte(n >> 16), byte(n >> 8), byte(n)}
}

// last is the last one of groups, or nil.
func last(groups []*group) *group {
	if len(groups) == 0 {
		return nil
	}
	return groups[len(groups)-1]
}
