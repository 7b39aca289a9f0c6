package btree_test

import (
	"fmt"
	"math/bits"
	"testing"

	"pantry/api"
	"pantry/btree"
)

// bounded asks for the bounds of n keys that have at most 100 bytes together with their values.
func bounded(t *testing.T, x *btree.Tree, n int) {
	t.Helper()
	deep, pages := x.Shape()
	if x.Len() != n || (deep == 0) != (n == 0) || deep > bits.Len(uint(n))+2 || pages > n+10 || pages < deep {
		t.Fatalf("%d keys: Len is %d, it is %d deep, and has %d pages", n, x.Len(), deep, pages)
	}
}

// P10.5: the bounds behind each Put and each Delete, in all orders.
func TestShapeEachTime(t *testing.T) {
	for _, y := range []struct{ keys, values int }{{6, 94}, {100, 0}, {6, 0}, {50, 50}, {20, 7}} {
		n := rounds(3000)
		all := many(n, y.keys, y.values).keys()
		for name, order := range orders(n) {
			x := opened(t, disk(t, 1<<24))
			for i, at := range order {
				put(t, x, all[at], sized(y.values))
				bounded(t, x, i+1)
			}
			for i, at := range orders(n)[name] {
				ok(t, x.Delete(all[at]))
				bounded(t, x, n-i-1)
			}
		}
	}
}

// P10.5: as many keys as there is room for.
func TestShapeOfMany(t *testing.T) {
	x := opened(t, disk(t, 1<<26))
	r := dice()
	n := 2 * most
	if testing.Short() {
		n = most / 4
	}
	for i, at := range r.Perm(n) {
		put(t, x, key(at, 50), sized(50))
		if i%100 == 0 {
			bounded(t, x, i+1)
		}
	}
	bounded(t, x, n)
	if deep, _ := x.Shape(); deep < 3 {
		t.Error(deep)
	}
	// Each node below the root loses most of what it has.
	for i, at := range r.Perm(n) {
		ok(t, x.Delete(key(at, 50)))
		if i%100 == 0 {
			bounded(t, x, n-i-1)
		}
		if i%(n/100) == 0 {
			shaped(t, x, keysOf(x))
		}
	}
	empty(t, x)
}

// keysOf is the keys of a tree, without their values.
func keysOf(x *btree.Tree) list {
	l := list{}
	for k := range x.Range("") {
		l[k] = ""
	}
	return l
}

// P10.5: where long keys and long values were ahead, and only small ones are left of them.
func TestShapeBehindLongOnes(t *testing.T) {
	r := dice()
	for name, long := range map[string]list{
		"long keys":   many(600, api.MaxKey, 0),
		"heavy":       many(600, 100, 153),
		"long values": many(600, 50, 254),
		"longer ones": many(600, 50, 3000),
	} {
		for _, every := range []int{3, 50, 1, 2, 7}[:max(2, rounds(5))] {
			x := opened(t, disk(t, 1<<26))
			puts(t, x, long)
			n := 0
			for i := range len(long) {
				if i%every == 0 {
					put(t, x, fmt.Sprintf("%06d", i), sized(r.IntN(95)))
					n++
				}
			}
			for _, at := range r.Perm(len(long)) {
				k := long.keys()[at]
				if len(k) > 100 || r.IntN(2) == 0 {
					ok(t, x.Delete(k))
				} else {
					// It stays, with a small value.
					put(t, x, k, "")
					n++
				}
			}
			bounded(t, x, n)
			if fault := x.Fault(); fault != "" {
				t.Error(name, every, fault)
			}
		}
	}
}

// P10.5: keys go and come at the edges of nodes, so that these part and are joined over and over.
func TestShapeOverAndOver(t *testing.T) {
	r := dice()
	x := opened(t, disk(t, 1<<26))
	n := rounds(20000)
	there := map[string]int{}
	for i := range n {
		// The place wanders, and from time to time there is more taken than laid.
		k := key(i/7+r.IntN(900), 6+r.IntN(60))
		if r.IntN(900) < 300+i%600 {
			put(t, x, k, sized(r.IntN(40)))
			there[k]++
		} else {
			for next := range x.Range(k) {
				k = next
				break
			}
			if x.Delete(k) == api.OK {
				delete(there, k)
			}
		}
		bounded(t, x, len(there))
		if i%500 == 0 {
			shaped(t, x, keysOf(x))
		}
	}
}

// P10.5: the shape of the least trees.
func TestShapeOfFew(t *testing.T) {
	x := opened(t, disk(t, 1<<20))
	for _, y := range []struct {
		key, value  string
		deep, pages int
	}{
		{"a", "", 1, 1},
		{"a", sized(252), 1, 1},
		{"a", sized(253), 1, 2},
		{"a", sized(509), 1, 2},
		{"a", sized(510), 1, 3},
		{"a", sized(api.MaxValue), 1, 130},
		{"a", sized(100), 1, 1},
		{"b", sized(100), 1, 1},
		{"c", sized(252), 1, 1},
		{"d", sized(252), 2, 3},
		{"d", "", 1, 1},
		{"d", sized(47), 1, 1},
		{"d", sized(48), 2, 3},
		{"d", "", 1, 1},
	} {
		put(t, x, y.key, y.value)
		if deep, pages := x.Shape(); deep != y.deep || pages != y.pages {
			t.Errorf("behind %s with %d bytes: %d deep, %d pages", y.key, len(y.value), deep, pages)
		}
	}
	for i, k := range []string{"b", "d", "a", "c"} {
		ok(t, x.Delete(k))
		if deep, pages := x.Shape(); i < 3 && (deep != 1 || pages != 1) || i == 3 && (deep != 0 || pages != 0) {
			t.Errorf("without %s: %d deep, %d pages", k, deep, pages)
		}
	}
}
