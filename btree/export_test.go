package btree

import "strconv"

// Fault is in words what of a tree's shape is not as it is to be; "" if there is nothing.
func (t *Tree) Fault() string {
	all, free := t.pager.Count()
	if t.Len() == 0 {
		return ""
	}
	if n := t.read(rootPage); n.kind == innerKind && len(n.kids) == 1 {
		return "the root has one kid"
	}
	w := &walk{source: t.source, seen: make([]bool, all)}
	if !w.node(rootPage, 1) || w.pages != all-free || int(w.keys) != t.Len() {
		return "it is no tree of all its pages"
	}
	return t.loose(rootPage)
}

// loose looks for two nodes that follow one another under one node and have room in one page.
func (t *Tree) loose(page int) string {
	n := t.read(page)
	for i, kid := range n.kids {
		if i > 0 && t.read(kid).weight()+t.read(n.kids[i-1]).weight() <= maxBody {
			return "kids " + strconv.Itoa(i-1) + " and " + strconv.Itoa(i) + " of page " + strconv.Itoa(page) + " have room in one"
		}
		if fault := t.loose(kid); fault != "" {
			return fault
		}
	}
	return ""
}

// Cursors is how many there are.
func (t *Tree) Cursors() int { return len(t.cursors) }
