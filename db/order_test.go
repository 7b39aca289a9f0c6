package db_test

import (
	"math/rand/v2"
	"slices"
	"testing"

	"pantry/api"
	"pantry/db"
)

// closes asks for a closure.
func closes(t *testing.T, d *db.DB, l []api.Path, want ...api.Path) {
	t.Helper()
	got, e := d.Closure(l)
	answers(t, e, api.OK)
	lists(t, got, want...)
}

// orders asks for an order.
func orders(t *testing.T, d *db.DB, l []api.Path, want ...api.Path) {
	t.Helper()
	got, e := d.Order(l)
	answers(t, e, api.OK)
	lists(t, got, want...)
}

// P11.4: no path, paths told twice, paths that refer to themselves.
func TestClosure(t *testing.T) {
	a, b, c, x := named("a"), named("b"), named("c"), named("x")
	_, d := made(t, one(a, a), one(b, a), one(c, b, c), one(x))
	closes(t, d, nil)
	closes(t, d, []api.Path{})
	closes(t, d, []api.Path{a}, a)
	closes(t, d, []api.Path{x, x}, x)
	closes(t, d, []api.Path{c}, rising(a, b, c)...)
	closes(t, d, []api.Path{c, a, c, b}, rising(a, b, c)...)
	closes(t, d, []api.Path{x, b, x}, rising(a, b, x)...)
}

// P11.4: paths that are not valid, at each place.
func TestNotValid(t *testing.T) {
	a, b := named("a"), named("b")
	_, d := made(t, one(a), one(b, a))
	for _, p := range append(wrongPaths(), named("none"), alike("a")) {
		for _, l := range [][]api.Path{{p}, {a, p}, {p, a}, {a, p, b}, {p, p}} {
			if got, e := d.Closure(l); len(got) != 0 || e != api.ErrNone {
				t.Errorf("Closure(%.100q): %v, %v", l, got, e)
			}
			if got, e := d.Order(l); len(got) != 0 || e != api.ErrNone {
				t.Errorf("Order(%.100q): %v, %v", l, got, e)
			}
		}
	}
	ok(t, d.Remove(b))
	if got, e := d.Closure([]api.Path{a, b}); len(got) != 0 || e != api.ErrNone {
		t.Errorf("%v, %v", got, e)
	}
}

// P11.4: Order's least next one: rising without references, and each behind what it refers to.
func TestOrder(t *testing.T) {
	l := some(6)
	_, d := made(t, one(l[0], l[4]), one(l[1]), one(l[2], l[2], l[0]), one(l[3], l[5]), one(l[4]), one(l[5], l[5]))
	orders(t, d, nil)
	orders(t, d, []api.Path{})
	orders(t, d, []api.Path{l[3], l[3]}, l[3])
	orders(t, d, []api.Path{l[5], l[1], l[4]}, l[1], l[4], l[5])
	orders(t, d, []api.Path{l[0], l[4]}, l[4], l[0])
	orders(t, d, mixed(l), l[1], l[4], l[0], l[2], l[5], l[3])
	orders(t, d, append(mixed(l), l...), l[1], l[4], l[0], l[2], l[5], l[3])
	orders(t, d, []api.Path{l[2], l[5], l[3], l[0], l[2]}, l[0], l[2], l[5], l[3])
}

// P11.4: paths that are joined by others outside of the list, by one or by many, in all ways at once.
func TestOrderByOthers(t *testing.T) {
	l := some(9)
	// 0 to 3 to 4 to 8, 1 to 5 to 8, and 2 to both 6 and 8, 6 to 7.
	_, d := made(t, one(l[0], l[3]), one(l[3], l[4]), one(l[4], l[8]), one(l[1], l[5]), one(l[5], l[8]), one(l[2], l[6], l[8]), one(l[6], l[7]), one(l[7]), one(l[8]))
	orders(t, d, []api.Path{l[0], l[8]}, l[8], l[0])
	orders(t, d, []api.Path{l[0], l[1], l[8]}, l[8], l[0], l[1])
	orders(t, d, []api.Path{l[0], l[1], l[2], l[7], l[8]}, l[7], l[8], l[0], l[1], l[2])
	orders(t, d, []api.Path{l[0], l[1], l[2], l[7]}, l[0], l[1], l[7], l[2])
	orders(t, d, []api.Path{l[0], l[4], l[1]}, l[1], l[4], l[0])
	orders(t, d, []api.Path{l[0], l[1], l[2]}, l[0], l[1], l[2])
	orders(t, d, l, l[7], l[6], l[8], l[2], l[4], l[3], l[0], l[5], l[1])
}

// web is paths that refer to one another at random, and what a model tells of them.
func web(t *testing.T, r *rand.Rand, n, refs int) (*db.DB, model, []api.Path) {
	t.Helper()
	all := mixed(some(n))
	var l []api.Info
	for i, p := range all {
		x := one(p)
		for range r.IntN(refs + 1) {
			x.Refs = append(x.Refs, all[r.IntN(i+1)])
		}
		l = append(l, x)
	}
	_, d := made(t, mixed(l)...)
	m := nothing()
	ok(t, m.register(l))
	return d, m, all
}

// P11.4: Closure and Order of some of a web, against the model.
func TestOrderAtRandom(t *testing.T) {
	r := dice()
	for i := range rounds(300) {
		d, m, all := web(t, r, 2+i%30, 1+i%4)
		for range 20 {
			var l []api.Path
			for range r.IntN(len(all) + 3) {
				l = append(l, all[r.IntN(len(all))])
			}
			closes(t, d, l, m.closure(l...)...)
			orders(t, d, l, m.order(l)...)
		}
		if t.Failed() {
			t.Fatalf("round %d", i)
		}
	}
}

// P11.4: both go on behind changes.
func TestOrderBehindChanges(t *testing.T) {
	d, m, all := web(t, dice(), 40, 3)
	for len(all) > 0 {
		all = slices.DeleteFunc(all, func(p api.Path) bool {
			e := m.remove(p)
			answers(t, d.Remove(p), e)
			return e == api.OK
		})
		closes(t, d, all, m.closure(all...)...)
		orders(t, d, all, m.order(all)...)
	}
}
