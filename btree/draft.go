package btree

import (
	"bytes"
	"maps"
	"slices"

	"pantry/api"
)

const maxPages = 1 << 14 // of a pager

// draft is a change that the pages do not tell yet: only at its end it is known whether there are enough of them.
// Of the nodes below one that is settled each has room in a page, and no two that follow one another under one node
// have room in one page together.
type draft struct {
	source
	nodes map[int]*node // by their pages: those that were asked for, and new ones
	added int           // how many new ones: till they have pages, they are numbered from maxPages on
	gone  []int         // pages that are to be free
}

// node is that of a page, as the draft has it.
func (d *draft) node(page int) *node {
	n, ok := d.nodes[page]
	if !ok {
		n = d.read(page)
		d.nodes[page] = n
	}
	return n
}

// add is a new node.
func (d *draft) add(n node) *node {
	n.page = maxPages + d.added
	d.added++
	d.nodes[n.page] = &n
	return &n
}

// remove takes a node away.
func (d *draft) remove(n *node) {
	delete(d.nodes, n.page)
	if n.page < maxPages {
		d.gone = append(d.gone, n.page)
	}
}

// clear takes all pages away, whatever they tell.
func (d *draft) clear() {
	all, _ := d.pager.Count()
	for page := range all {
		if _, e := d.pager.Get(page); e == api.OK {
			d.gone = append(d.gone, page)
		}
	}
}

// entry is that of a key with a value, which gets pages of its own if it is long.
func (d *draft) entry(key string, value []byte) entry {
	if isShort(key, len(value)) {
		return entry{key: key, value: string(value)}
	}
	next := 0
	for _, data := range slices.Backward(slices.Collect(slices.Chunk(value, pieceSize))) {
		next = d.add(node{kind: pieceKind, next: next, data: string(data)}).page
	}
	return entry{key: key, size: len(value), first: next}
}

// swap lets entries stand in the place of a key's, and tells whether there was one. All below the node is settled.
func (d *draft) swap(n *node, key string, anew ...entry) (had bool) {
	if n.kind == innerKind {
		i := d.place(n.kids, key)
		had = d.swap(d.node(n.kids[i]), key, anew...)
		d.settle(n, i)
		return had
	}
	i, had := n.search(key)
	end := i
	if had {
		for piece := range d.pieces(n.entries[i]) {
			d.gone = append(d.gone, piece.page)
		}
		end++
	}
	n.entries = slices.Replace(n.entries, i, end, anew...)
	return had
}

// settle settles the kids of a node of which one was changed.
func (d *draft) settle(n *node, i int) {
	kid, end := d.node(n.kids[i]), i+1
	switch weight := kid.weight(); {
	case weight == 0:
		d.remove(kid)
		n.kids = slices.Delete(n.kids, i, i+1)
		end = i
	case weight > maxBody:
		n.kids = slices.Insert(n.kids, i+1, d.part(kid).page)
		end = i + 2
	}
	d.join(n, max(i-1, 0), end)
}

// part is a new node with the second half of another one.
func (d *draft) part(n *node) *node {
	right := d.add(node{kind: n.kind})
	cut := n.middle()
	if n.kind == innerKind {
		right.kids, n.kids = slices.Clone(n.kids[cut:]), n.kids[:cut]
	} else {
		right.entries, n.entries = slices.Clone(n.entries[cut:]), n.entries[:cut]
	}
	return right
}

// middle is where a node parts so that the heavier one of both is as light as it may be.
func (n *node) middle() int {
	if n.kind == innerKind {
		return len(n.kids) / 2
	}
	whole := n.weight()
	cut, least, left := 0, whole, 0
	for i, x := range n.entries {
		if heavier := max(left, whole-left); heavier < least {
			cut, least = i, heavier
		}
		left += x.weight()
	}
	return cut
}

// join lets kids of a node that follow one another be one where they have room in a page together: those from one
// place on, up to the pair that begins ahead of another place.
func (d *draft) join(n *node, from, end int) {
	for i := from; i < min(end, len(n.kids)-1); {
		left, right := d.node(n.kids[i]), d.node(n.kids[i+1])
		if left.weight()+right.weight() > maxBody {
			i++
			continue
		}
		d.merge(left, right)
		n.kids = slices.Delete(n.kids, i+1, i+2)
		end--
	}
}

// merge lets a node have what another one has.
func (d *draft) merge(left, right *node) {
	seam := len(left.kids)
	left.entries = append(left.entries, right.entries...)
	left.kids = append(left.kids, right.kids...)
	d.remove(right)
	if seam > 0 {
		// The kids at the seam did not follow one another under one node ahead of it.
		d.join(left, seam-1, seam)
	}
}

// crown settles the root: it stays in its page, whatever becomes of it.
func (d *draft) crown(root *node) {
	switch weight := root.weight(); {
	case weight == 0:
		d.remove(root)
	case weight > maxBody:
		left := d.add(node{kind: root.kind, entries: root.entries, kids: root.kids})
		right := d.part(left)
		root.kind, root.entries, root.kids = innerKind, nil, []int{left.page, right.page}
	}
	for len(root.kids) == 1 {
		kid := d.node(root.kids[0])
		d.remove(kid)
		root.kind, root.entries, root.kids = kid.kind, kid.entries, kid.kids
	}
}

// fits tells whether there are pages enough.
func (d *draft) fits() bool {
	all, free := d.pager.Count()
	return all-free-len(d.gone)+len(d.fresh()) <= maxPages
}

// fresh is the new nodes' numbers, rising.
func (d *draft) fresh() []int {
	numbers := slices.Sorted(maps.Keys(d.nodes))
	first, _ := slices.BinarySearch(numbers, maxPages)
	return numbers[first:]
}

// write lets the pages tell the draft. They are enough, so that none of the pager's answers is an error.
func (d *draft) write() {
	for _, page := range d.gone {
		d.pager.Free(page)
	}
	pages := map[int]int{}
	for _, n := range d.fresh() {
		pages[n], _ = d.pager.New()
	}
	number := func(n int) int {
		if page, ok := pages[n]; ok {
			return page
		}
		return n
	}
	for _, n := range slices.Sorted(maps.Keys(d.nodes)) {
		d.put(number(n), d.nodes[n].encode(number))
	}
}

// put changes a page, unless it is as it is to be: what did not change need not be made to last.
func (d *draft) put(page int, b []byte) {
	if old, _ := d.pager.Get(page); !bytes.Equal(old, b) {
		d.pager.Put(page, b)
	}
}
