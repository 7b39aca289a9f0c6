package btree

import "pantry/api"

// A page tells a node: a byte for its kind, and then its body. That is
//   - of a leaf its entries, rising: each a byte for the length of its key, the key, a byte for the length of its
//     value, the value; or, if the value has pages of its own, the byte apart, its length in three bytes, and its
//     first page,
//   - of an inner node its kids, whose keys rise from one to the next,
//   - of a piece of a long value the page of the next piece (0 behind the last one), and bytes.
//
// An inner node has no keys, so that what is taken away below it never makes it longer: a Delete must not need a page.
const (
	leafKind = 1 + iota
	innerKind
	pieceKind
)

const (
	rootPage = 0

	kindSize  = 1 // bytes of a node's kind
	refSize   = 2 // bytes of a page's number
	sizeSize  = 3 // bytes of a long value's length
	entrySize = 2 // bytes of an entry beside its key and value
	apart     = 255

	maxBody   = api.PageSize - kindSize
	maxEntry  = maxBody / 2 // so that a leaf that is too long by one entry parts in two that have room
	pieceSize = maxBody - refSize
)

// node is what a page tells.
type node struct {
	page    int
	kind    byte
	entries []entry // of a leaf
	kids    []int   // of an inner node
	next    int     // of a piece
	data    string  // likewise
}

// entry is a key with its value.
type entry struct {
	key   string
	value string
	// A long value is not here but in pages of its own: how many bytes it has, and its first page.
	size  int
	first int
}

// isShort tells whether a key's value of so many bytes is in its entry.
func isShort(key string, size int) bool { return entrySize+len(key)+size <= maxEntry }

// weight is how many bytes an entry takes.
func (x entry) weight() int {
	sum := entrySize + len(x.key) + len(x.value)
	if x.first != 0 {
		sum += sizeSize + refSize
	}
	return sum
}

// weight is how many bytes the body of a leaf or an inner node takes.
func (n *node) weight() int {
	sum := len(n.kids) * refSize
	for _, x := range n.entries {
		sum += x.weight()
	}
	return sum
}

// encode is a page that tells the node; pages are told by the numbers that they are to have.
func (n *node) encode(number func(page int) int) []byte {
	b := []byte{n.kind}
	switch n.kind {
	case leafKind:
		for _, x := range n.entries {
			b = x.encode(b, number)
		}
	case innerKind:
		for _, kid := range n.kids {
			b = appendNumber(b, number(kid), refSize)
		}
	case pieceKind:
		b = appendNumber(b, number(n.next), refSize)
		b = append(b, n.data...)
	}
	return b
}

// encode is bytes with an entry behind them.
func (x entry) encode(b []byte, number func(page int) int) []byte {
	b = append(b, byte(len(x.key)))
	b = append(b, x.key...)
	if x.first != 0 {
		b = append(b, apart)
		b = appendNumber(b, x.size, sizeSize)
		return appendNumber(b, number(x.first), refSize)
	}
	b = append(b, byte(len(x.value)))
	return append(b, x.value...)
}

// decode is the node that a page tells, if it tells one.
func decode(page int, b []byte) (n *node, ok bool) {
	if len(b) < kindSize {
		return nil, false
	}
	n = &node{page: page, kind: b[0]}
	body := string(b[kindSize:])
	switch n.kind {
	case leafKind:
		return n, n.cutEntries(body)
	case innerKind:
		return n, n.cutKids(body)
	case pieceKind:
		return n, n.cutPiece(body)
	}
	return nil, false
}

// cutEntries reads the body of a leaf.
func (n *node) cutEntries(body string) bool {
	for rest := body; rest != ""; {
		x, behind, ok := cutEntry(rest)
		if !ok {
			return false
		}
		n.entries, rest = append(n.entries, x), behind
	}
	return len(n.entries) > 0
}

// cutKids reads the body of an inner node.
func (n *node) cutKids(body string) bool {
	rest, kid := body, 0
	for len(rest) >= refSize {
		kid, rest = cutNumber(rest, refSize)
		n.kids = append(n.kids, kid)
	}
	return len(n.kids) > 0 && rest == ""
}

// cutPiece reads the body of a piece.
func (n *node) cutPiece(body string) bool {
	if len(body) < refSize {
		return false
	}
	n.next, n.data = cutNumber(body, refSize)
	return true
}

// cutEntry is the entry with which a text begins, and what is behind it.
func cutEntry(s string) (x entry, rest string, ok bool) {
	key, rest, ok := cutText(s)
	if !ok || !isKey(key) {
		return entry{}, "", false
	}
	if rest != "" && rest[0] == apart {
		return cutLong(key, rest[1:])
	}
	value, rest, ok := cutText(rest)
	return entry{key: key, value: value}, rest, ok && isShort(key, len(value))
}

// cutLong is an entry whose value has pages of its own, as a text tells them behind its key, and what is behind it.
func cutLong(key, s string) (x entry, rest string, ok bool) {
	if len(s) < sizeSize+refSize {
		return entry{}, "", false
	}
	size, s := cutNumber(s, sizeSize)
	first, rest := cutNumber(s, refSize)
	return entry{key: key, size: size, first: first}, rest, size <= api.MaxValue && !isShort(key, size)
}

// cutText is what stands behind a byte that tells how long it is, and what is behind that.
func cutText(s string) (text, rest string, ok bool) {
	if s == "" || len(s) <= int(s[0]) {
		return "", "", false
	}
	end := 1 + int(s[0])
	return s[1:end], s[end:], true
}

// appendNumber is bytes with a number of so many bytes behind them.
func appendNumber(b []byte, n, size int) []byte {
	for i := size - 1; i >= 0; i-- {
		b = append(b, byte(n>>(8*i)))
	}
	return b
}

// cutNumber is the number that the first bytes of a text tell, so many of them, and what is behind these.
func cutNumber(s string, size int) (n int, rest string) {
	for _, c := range []byte(s[:size]) {
		n = n<<8 | int(c)
	}
	return n, s[size:]
}
