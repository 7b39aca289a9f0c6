package btree

import (
	"iter"
	"slices"
	"strings"
)

// pair is a key with its value, in memory of their own.
type pair struct {
	key   string
	value []byte
}

// cursor goes through the keys as they were when it began: through the pages as long as these stay as they were,
// and then through what it took out of them just ahead of that.
type cursor struct {
	source
	way   []*node // from the root on, each with just what is still to come of it
	taken []pair
}

// Range goes through the keys from one on, rising.
func (t *Tree) Range(from string) iter.Seq2[string, []byte] {
	from = strings.Clone(from)
	return func(yield func(string, []byte) bool) {
		if t.Len() == 0 {
			return
		}
		c := t.cursor(from)
		defer t.end(c)
		for x, ok := c.next(); ok; x, ok = c.next() {
			if !yield(x.key, x.value) {
				return
			}
		}
	}
}

// cursor is a new one, ahead of all keys from one on.
func (t *Tree) cursor(from string) *cursor {
	c := &cursor{source: t.source}
	n := t.read(rootPage)
	for n.kind == innerKind {
		i := t.place(n.kids, from)
		kid := n.kids[i]
		n.kids = n.kids[i+1:]
		c.way = append(c.way, n)
		n = t.read(kid)
	}
	i, _ := n.search(from)
	n.entries = n.entries[i:]
	c.way = append(c.way, n)
	t.cursors = append(t.cursors, c)
	return c
}

// end forgets a cursor.
func (t *Tree) end(c *cursor) {
	t.cursors = slices.DeleteFunc(t.cursors, func(other *cursor) bool { return other == c })
}

// release lets the pages be changed: no cursor needs them any more.
func (t *Tree) release() {
	for _, c := range t.cursors {
		c.take()
	}
	t.cursors = nil
}

// next is the next key with its value, if there is one.
func (c *cursor) next() (x pair, ok bool) {
	if len(c.taken) == 0 {
		return c.step()
	}
	x, c.taken = c.taken[0], c.taken[1:]
	return x, true
}

// take reads all that is still to come.
func (c *cursor) take() {
	for x, ok := c.step(); ok; x, ok = c.step() {
		c.taken = append(c.taken, x)
	}
}

// step is the next one out of the pages.
func (c *cursor) step() (x pair, ok bool) {
	for len(c.way) > 0 {
		last := len(c.way) - 1
		n := c.way[last]
		switch {
		case len(n.entries) > 0:
			x := n.entries[0]
			n.entries = n.entries[1:]
			return pair{strings.Clone(x.key), c.value(x)}, true
		case len(n.kids) > 0:
			kid := n.kids[0]
			n.kids = n.kids[1:]
			c.way = append(c.way, c.read(kid))
		default:
			c.way = c.way[:last]
		}
	}
	return pair{}, false
}
