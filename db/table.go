package db

import (
	"iter"
	"math"
	"slices"
	"sort"
	"strings"

	"pantry/api"
	"pantry/btree"
)

// table reads what the keys of a tree tell. Without a tree they tell nothing.
type table struct{ tree *btree.Tree }

// sig is a signature and its place.
type sig struct {
	place byte
	text  string
}

// under is what stands behind a beginning in the keys that have it, rising, with their values.
func (t table) under(beginning string) iter.Seq2[string, []byte] {
	return func(yield func(string, []byte) bool) {
		for key, value := range t.tree.Range(beginning) {
			rest, ok := strings.CutPrefix(key, beginning)
			if !ok || !yield(rest, value) {
				return
			}
		}
	}
}

// record is that of a path, if it is valid.
func (t table) record(p api.Path) (r record, valid bool) {
	// Without a value there are no bytes, and these tell no record.
	b, _ := t.tree.Get(pathKey(p))
	return decode(b)
}

// path is the one that has a number.
func (t table) path(n int) api.Path {
	b, _ := t.tree.Get(numberKey(numberKind, n))
	return api.Path(b)
}

// paths is those that have numbers, rising.
func (t table) paths(numbers []int) []api.Path {
	l := make([]api.Path, len(numbers))
	for i, n := range numbers {
		l[i] = t.path(n)
	}
	slices.Sort(l)
	return l
}

// last is the greatest number that a path has; 0 without any.
func (t table) last() int {
	// None is above those that are asked for: as many paths are never registered.
	return sort.Search(math.MaxInt32, func(n int) bool {
		for key := range t.tree.Range(numberKey(numberKind, n+1)) {
			return key[0] != numberKind
		}
		return true
	})
}

// refs is the numbers of what a path refers to, in the order of their paths.
func (t table) refs(n int) []int {
	b, _ := t.tree.Get(numberKey(refsKind, n))
	return cutNumbers(b)
}

// referrers is the numbers of those that refer to a path.
func (t table) referrers(n int) []int {
	var l []int
	for rest := range t.under(numberKey(referrerKind, n)) {
		l = append(l, cutNumbers([]byte(rest))...)
	}
	return l
}

// sigs is the signatures of a path, by their places.
func (t table) sigs(n int) []sig {
	var l []sig
	for rest, value := range t.under(numberKey(sigKind, n)) {
		if len(rest) == 1 {
			l = append(l, sig{rest[0], string(value)})
		}
	}
	return l
}

// info is what is registered of a path.
func (t table) info(p api.Path, r record) api.Info {
	x := api.Info{Path: api.Path(strings.Clone(string(p))), Hash: r.hash, Size: r.size, Deriver: r.deriver}
	x.Refs = t.paths(t.refs(r.number))
	for _, s := range t.sigs(r.number) {
		x.Sigs = append(x.Sigs, s.text)
	}
	slices.Sort(x.Sigs)
	return x
}
