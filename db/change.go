package db

import (
	"slices"

	"pantry/api"
)

const (
	maxSigs = 64  // of a path
	places  = 256 // for signatures: as many as a byte tells
)

// change is keys that come and keys that go, together. The tree may refuse a Put, but never a Delete: so what goes,
// goes last, and what came goes again where something is refused. No key gets another value, for the tree might
// refuse the old one when that is to come back.
type change struct {
	*DB
	err  api.Errno // behind the first one nothing comes any more
	came []string
	goes []string
}

// put lets a new key have a value.
func (c *change) put(key string, value []byte) {
	if c.err != api.OK {
		return
	}
	if c.err = c.tree.Put(key, value); c.err == api.OK {
		c.came = append(c.came, key)
	}
}

// drop lets a key go, at the end.
func (c *change) drop(key string) { c.goes = append(c.goes, key) }

// end is the error of the change: with one, nothing is changed.
func (c *change) end() api.Errno {
	if c.err != api.OK {
		c.undo()
		return c.err
	}
	for _, key := range c.goes {
		c.tree.Delete(key)
	}
	c.clean = c.clean && len(c.came)+len(c.goes) == 0
	return api.OK
}

// undo takes away what came.
func (c *change) undo() {
	if c.clean {
		// So the next Commit has nothing to do.
		c.tree.Drop()
		return
	}
	for _, key := range c.came {
		c.tree.Delete(key)
	}
}

// add lets paths be valid, together, but for their signatures.
func (c *change) add(l []api.Info) {
	first := c.last() + 1
	for i, x := range l {
		n := first + i
		c.put(pathKey(x.Path), record{n, x.Hash, x.Size, x.Deriver}.encode())
		c.put(numberKey(numberKind, n), []byte(x.Path))
	}
	// All of them have numbers now.
	for i, x := range l {
		c.refer(first+i, x.Refs)
	}
}

// refer lets a path refer to others.
func (c *change) refer(n int, refs []api.Path) {
	var numbers []byte
	for _, p := range rising(refs) {
		r, _ := c.record(p)
		numbers = appendNumber(numbers, r.number, numberSize)
		c.put(numberKey(referrerKind, r.number, n), nil)
	}
	if len(numbers) > 0 {
		c.put(numberKey(refsKind, n), numbers)
	}
}

// sign lets a path have more signatures, up to the least ones of all.
func (c *change) sign(n int, more []string) {
	old := c.sigs(n)
	all := slices.Clone(more)
	var taken [places]bool
	for _, s := range old {
		all = append(all, s.text)
		taken[s.place] = true
	}
	all = rising(all)
	all = all[:min(len(all), maxSigs)]
	for _, s := range old {
		i, stays := slices.BinarySearch(all, s.text)
		if stays {
			all = slices.Delete(all, i, i+1)
		} else {
			c.drop(sigKey(n, s.place))
		}
	}
	for place, is := range taken {
		if !is && len(all) > 0 {
			c.put(sigKey(n, byte(place)), []byte(all[0]))
			all = all[1:]
		}
	}
}

// remove lets a path be valid no more.
func (c *change) remove(p api.Path, n int) {
	c.drop(pathKey(p))
	c.drop(numberKey(numberKind, n))
	c.drop(numberKey(refsKind, n))
	for _, ref := range c.refs(n) {
		c.drop(numberKey(referrerKind, ref, n))
	}
	for _, s := range c.sigs(n) {
		c.drop(sigKey(n, s.place))
	}
}

// rising is a list in order, each once, in new memory.
func rising[T ~string](l []T) []T {
	l = slices.Clone(l)
	slices.Sort(l)
	return slices.Compact(l)
}
