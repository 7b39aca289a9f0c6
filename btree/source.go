package btree

import (
	"cmp"
	"iter"
	"slices"
	"sort"

	"pantry/api"
	"pantry/pages"
)

// source is pages out of which nodes are read. All but survey ask them only where they are a tree.
type source struct{ pager *pages.Pager }

// read is the node of a page.
func (s source) read(page int) *node {
	b, _ := s.pager.Get(page)
	n, _ := decode(page, b)
	return n
}

// find is a key's entry, if there is one.
func (s source) find(key string) (x entry, found bool) {
	n := s.read(rootPage)
	for n.kind == innerKind {
		n = s.read(n.kids[s.place(n.kids, key)])
	}
	i, found := n.search(key)
	if !found {
		return entry{}, false
	}
	return n.entries[i], true
}

// place is which kid a key belongs to: the last one that does not begin behind it, or else the first one. What they
// begin with is told below them alone.
func (s source) place(kids []int, key string) int {
	later := kids[1:]
	return sort.Search(len(later), func(i int) bool { return s.least(later[i]) > key })
}

// least is the first key of a node and all below it.
func (s source) least(page int) string {
	for {
		b, _ := s.pager.Get(page)
		body := string(b[kindSize:])
		if b[0] == leafKind {
			x, _, _ := cutEntry(body)
			return x.key
		}
		page, _ = cutNumber(body, refSize)
	}
}

// search is the place of a key in a leaf: where it is, or would be.
func (n *node) search(key string) (i int, found bool) {
	return slices.BinarySearchFunc(n.entries, key, func(x entry, key string) int { return cmp.Compare(x.key, key) })
}

// value is the value of an entry, in new memory.
func (s source) value(x entry) []byte {
	b := append(make([]byte, 0, len(x.value)+x.size), x.value...)
	for n := range s.pieces(x) {
		b = append(b, n.data...)
	}
	return b
}

// pieces is those of an entry's value, if it is a long one.
func (s source) pieces(x entry) iter.Seq[*node] {
	return func(yield func(*node) bool) {
		for page := x.first; page != 0; {
			n := s.read(page)
			if !yield(n) {
				return
			}
			page = n.next
		}
	}
}

// survey is how many keys there are. Pages that are not a tree, and no other ones beside it, have none.
func (s source) survey() int64 {
	all, free := s.pager.Count()
	w := &walk{source: s, seen: make([]bool, all)}
	if !w.node(rootPage, 1) || w.pages != all-free {
		return 0
	}
	return w.keys
}

// walk is a way through all nodes, up to where they are not a tree.
type walk struct {
	source
	seen  []bool // which pages were met: one that is met twice could be met forever
	pages int    // how many
	keys  int64
	last  string // the last key
	deep  int    // how deep all leaves are; 0: none was met
}

// meet is the node of a page that was not met yet.
func (w *walk) meet(page int) (n *node, ok bool) {
	b, e := w.pager.Get(page)
	if e != api.OK || w.seen[page] {
		return nil, false
	}
	w.seen[page] = true
	w.pages++
	return decode(page, b)
}

// node goes through a node and all below it.
func (w *walk) node(page, deep int) bool {
	n, ok := w.meet(page)
	if !ok {
		return false
	}
	switch n.kind {
	case leafKind:
		return w.leaf(n, deep)
	case innerKind:
		for _, kid := range n.kids {
			if !w.node(kid, deep+1) {
				return false
			}
		}
		return true
	}
	return false
}

// leaf goes through the entries of a leaf.
func (w *walk) leaf(n *node, deep int) bool {
	if w.deep == 0 {
		w.deep = deep
	}
	if w.deep != deep {
		return false
	}
	for _, x := range n.entries {
		if x.key <= w.last || !w.long(x) {
			return false
		}
		w.last = x.key
		w.keys++
	}
	return true
}

// long goes through the pieces of an entry's value, if it is a long one.
func (w *walk) long(x entry) bool {
	page := x.first
	for left := x.size; left > 0; {
		n, ok := w.meet(page)
		// A node of another kind has no data.
		if !ok || len(n.data) != min(left, pieceSize) {
			return false
		}
		left -= len(n.data)
		page = n.next
	}
	return page == 0
}
