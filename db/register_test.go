package db_test

import (
	"fmt"
	"math"
	"slices"
	"strings"
	"testing"

	"pantry/api"
)

// P11.2: all of an Info is told again; Refs and Sigs in order, each once.
func TestRegister(t *testing.T) {
	a, b, c := named("a"), named("b"), named("c")
	f, d := made(t)
	ok(t, d.Register([]api.Info{
		{Path: b, Hash: hash(1), Size: 7, Refs: []api.Path{c, b, a, a, c}, Deriver: named("drv"), Sigs: []string{"z", "y", "z", "", "y"}},
		{Path: a, Hash: hash(2), Size: math.MaxInt, Sigs: []string{"\xff\x00", "\xff"}},
		{Path: c, Refs: []api.Path{a}, Deriver: c},
	}))
	want := nothing()
	for _, x := range []api.Info{
		{Path: b, Hash: hash(1), Size: 7, Refs: rising(a, b, c), Deriver: named("drv"), Sigs: []string{"", "y", "z"}},
		{Path: a, Hash: hash(2), Size: math.MaxInt, Sigs: []string{"\xff", "\xff\x00"}},
		{Path: c, Refs: []api.Path{a}, Deriver: c},
	} {
		want.infos[x.Path] = x
		has(t, d, x)
	}
	tells(t, d, want)
	ok(t, d.Commit())
	lasts(t, f, want)
}

// P11.2: nothing at all is registered.
func TestRegisterNothing(t *testing.T) {
	f, d := made(t, one(named("a")))
	stays(t, f, d, func() {
		answers(t, d.Register(nil), api.OK)
		answers(t, d.Register([]api.Info{}), api.OK)
	})
}

// P11.2: Sizes of each length.
func TestSizes(t *testing.T) {
	f, d := made(t)
	want := nothing()
	for i := range 63 {
		for _, size := range []int{1<<i - 1, 1 << i} {
			x := api.Info{Path: named(fmt.Sprint("size-", i, "-", size)), Size: size, Hash: hash(i)}
			want.infos[x.Path] = x
			ok(t, d.Register([]api.Info{x}))
		}
	}
	tells(t, d, want)
	ok(t, d.Commit())
	lasts(t, f, want)
}

// P11.2: what is refused, each as the first error of a list, in a DB in which a and b are valid.
func TestRegisterRefused(t *testing.T) {
	a, b, c, x, y, z := named("a"), named("b"), named("c"), named("x"), named("y"), named("z")
	bad := api.Path("bad")
	f, d := made(t, api.Info{Path: a, Hash: hash(1), Sigs: []string{"s"}}, api.Info{Path: b, Hash: hash(2), Refs: []api.Path{a}})
	was := api.Info{Path: a, Hash: hash(1)}
	other := api.Info{Path: a, Hash: hash(3)}
	many := make([]api.Path, api.MaxRefs+1)
	for i := range many {
		many[i] = a
	}
	form := api.Info{Path: x, Refs: []api.Path{bad}}
	negative := api.Info{Path: x, Size: -1}
	signed := api.Info{Path: x, Sigs: make([]string, maxSigs+1)}
	ref := one(x, c)
	ring := []api.Info{one(y, z), one(z, y)}
	for i, r := range []struct {
		l []api.Info
		e api.Errno
	}{
		// What is no path.
		{[]api.Info{{}}, api.ErrForm},
		{[]api.Info{{Path: bad}}, api.ErrForm},
		{[]api.Info{one(x, bad)}, api.ErrForm},
		{[]api.Info{one(x, a, b, bad)}, api.ErrForm},
		{[]api.Info{one(x, "")}, api.ErrForm},
		{[]api.Info{{Path: x, Deriver: bad}}, api.ErrForm},
		{[]api.Info{{Path: x, Deriver: "/"}}, api.ErrForm},
		// Of what is valid, too.
		{[]api.Info{{Path: a, Hash: hash(1), Refs: []api.Path{bad}}}, api.ErrForm},
		{[]api.Info{{Path: a, Hash: hash(1), Deriver: bad}}, api.ErrForm},
		// What may not be handed in.
		{[]api.Info{{Path: x, Size: -1}}, api.ErrArg},
		{[]api.Info{{Path: x, Size: math.MinInt}}, api.ErrArg},
		{[]api.Info{one(x), one(x)}, api.ErrArg},
		{[]api.Info{one(x), one(y), one(z), one(x)}, api.ErrArg},
		{[]api.Info{was, one(x), was}, api.ErrArg},
		{[]api.Info{{Path: a, Hash: hash(1), Size: -1}}, api.ErrArg},
		// What is too much.
		{[]api.Info{{Path: x, Refs: many}}, api.ErrLong},
		{[]api.Info{{Path: x, Refs: many[1:]}}, api.OK},
		{[]api.Info{{Path: x, Sigs: sigs(0, maxSigs+1, 9)}}, api.ErrLong},
		{[]api.Info{{Path: x, Sigs: make([]string, maxSigs+1)}}, api.ErrLong},
		{[]api.Info{{Path: x, Sigs: make([]string, maxSigs)}}, api.OK},
		{[]api.Info{{Path: x, Sigs: sigs(0, 1, maxSig+1)}}, api.ErrLong},
		{[]api.Info{{Path: x, Sigs: append(sigs(0, maxSigs-1, 9), strings.Repeat("s", 1<<20))}}, api.ErrLong},
		{[]api.Info{{Path: x, Sigs: sigs(0, maxSigs, maxSig)}}, api.OK},
		{[]api.Info{{Path: a, Hash: hash(1), Refs: many}}, api.ErrLong},
		{[]api.Info{{Path: a, Hash: hash(1), Sigs: make([]string, maxSigs+1)}}, api.ErrLong},
		// Another Hash.
		{[]api.Info{other}, api.ErrHas},
		{[]api.Info{one(x), {Path: b}}, api.ErrHas},
		// What is neither valid nor in the list.
		{[]api.Info{ref}, api.ErrRef},
		{[]api.Info{one(y), one(x, a, b, y, x, c)}, api.ErrRef},
		{[]api.Info{one(x, y), one(y, c)}, api.ErrRef},
		{[]api.Info{one(x, y), one(y, c), one(c)}, api.OK},
		// Rings.
		{ring, api.ErrLoop},
		{[]api.Info{one(x, y), one(y, z), one(z, x)}, api.ErrLoop},
		{[]api.Info{one(x, x)}, api.OK},
		{[]api.Info{one(x, x, y), one(y, y, z), one(z, z)}, api.OK},
		// In one Info: a form ahead of an argument ahead of a length.
		{[]api.Info{{Path: x, Refs: append(many, bad), Size: -1, Sigs: make([]string, 99)}}, api.ErrForm},
		{[]api.Info{{Path: x, Deriver: bad, Size: -1, Sigs: make([]string, 99)}}, api.ErrForm},
		{[]api.Info{{Path: x, Refs: many, Size: -1, Sigs: make([]string, 99)}}, api.ErrArg},
		{[]api.Info{one(x), {Path: x, Refs: many}}, api.ErrArg},
		{[]api.Info{one(x), {Path: x, Refs: []api.Path{bad}}}, api.ErrForm},
		// Of two Infos the first one's, of these three.
		{[]api.Info{form, {Path: y, Size: -1}}, api.ErrForm},
		{[]api.Info{negative, {Path: bad}}, api.ErrArg},
		{[]api.Info{signed, {Path: bad}}, api.ErrLong},
		{[]api.Info{signed, {Path: x}}, api.ErrLong},
		{[]api.Info{signed, {Path: y, Size: -1}}, api.ErrLong},
		// Each of the later ones in all Infos ahead of the next one.
		{[]api.Info{other, {Path: x, Size: -1}}, api.ErrArg},
		{[]api.Info{other, signed}, api.ErrLong},
		{[]api.Info{other, form}, api.ErrForm},
		{[]api.Info{ref, signed}, api.ErrArg},
		{[]api.Info{ref, {Path: y, Sigs: make([]string, 65)}}, api.ErrLong},
		{[]api.Info{ref, other}, api.ErrHas},
		{append(slices.Clone(ring), other), api.ErrHas},
		{append(slices.Clone(ring), ref), api.ErrRef},
		{append(slices.Clone(ring), api.Info{Path: bad}), api.ErrForm},
		{append(slices.Clone(ring), negative), api.ErrArg},
		{append(slices.Clone(ring), signed), api.ErrLong},
	} {
		stays(t, f, d, func() {
			answers(t, d.Register(r.l), r.e)
			if r.e == api.OK {
				for _, x := range r.l {
					x.Refs, x.Sigs = rising(x.Refs...), rising(x.Sigs...)
					has(t, d, x)
				}
				d.Drop()
			}
		})
		if t.Failed() {
			t.Fatalf("case %d", i)
		}
	}
}

// P11.2: each text that is no path, at each place of an Info.
func TestRegisterWrongPaths(t *testing.T) {
	a, x := named("a"), named("x")
	f, d := made(t, one(a))
	stays(t, f, d, func() {
		for _, p := range wrongPaths() {
			answers(t, d.Register([]api.Info{one(p)}), api.ErrForm)
			answers(t, d.Register([]api.Info{one(x, p)}), api.ErrForm)
			answers(t, d.Register([]api.Info{one(x, a, p, a)}), api.ErrForm)
			answers(t, d.Register([]api.Info{one(x), one(p)}), api.ErrForm)
			if p != "" {
				answers(t, d.Register([]api.Info{{Path: x, Deriver: p}}), api.ErrForm)
			}
		}
	})
}

// P11.2: a path that is valid keeps what it has but for Sigs, whatever the Info tells.
func TestRegisterAgain(t *testing.T) {
	a, b, c := named("a"), named("b"), named("c")
	was := api.Info{Path: b, Hash: hash(1), Size: 7, Refs: rising(a, b), Deriver: c, Sigs: []string{"m"}}
	f, d := made(t, one(a), was)
	stays(t, f, d, func() {
		answers(t, d.Register([]api.Info{{Path: b, Hash: hash(1)}}), api.OK)
		answers(t, d.Register([]api.Info{{Path: b, Hash: hash(1), Size: 9, Refs: []api.Path{c}, Deriver: a, Sigs: []string{"m", "m"}}}), api.OK)
		answers(t, d.Register([]api.Info{{Path: b, Hash: hash(2), Sigs: []string{"x"}}}), api.ErrHas)
		answers(t, d.Register([]api.Info{one(a), {Path: b}}), api.ErrHas)
	})
	ok(t, d.Register([]api.Info{one(c, b), {Path: b, Hash: hash(1), Size: 3, Refs: []api.Path{c}, Sigs: []string{"z", "a", "m", "z"}}}))
	was.Sigs = []string{"a", "m", "z"}
	has(t, d, was)
	has(t, d, one(c, b))
	lists(t, d.Referrers(c))
	lists(t, d.Referrers(b), rising(b, c)...)
}

// P11.2: Sigs grow up to the least ones, however they come.
func TestSigsGrow(t *testing.T) {
	a, b := named("a"), named("b")
	all := sigs(0, 300, 12)
	for _, order := range [][]string{all, mixed(all), reversed(all)} {
		f, d := made(t, one(a), one(b))
		want := nothing()
		ok(t, want.register([]api.Info{one(a), one(b)}))
		for i := 0; i < len(order); i += 1 + i%37 {
			l := []api.Info{{Path: a, Sigs: order[i:min(i+1+i%64, len(order))]}}
			ok(t, d.Register(l))
			ok(t, want.register(l))
			tells(t, d, want)
			ok(t, d.Commit())
		}
		if n := len(want.infos[a].Sigs); n != maxSigs {
			t.Errorf("%d Sigs", n)
		}
		has(t, d, one(b))
		lasts(t, f, want)
	}
}

// P11.2: 64 Sigs of 1000 bytes by 64 others: those that are less stay.
func TestSigsLong(t *testing.T) {
	a := named("a")
	f, d := made(t, api.Info{Path: a, Sigs: sigs(100, maxSigs, maxSig)})
	for _, x := range []struct {
		more []string
		want []string
	}{
		{sigs(500, maxSigs, maxSig), sigs(100, maxSigs, maxSig)},
		{sigs(68, maxSigs, maxSig), sigs(68, maxSigs, maxSig)},
		{sigs(4, 2, maxSig), append(sigs(4, 2, maxSig), sigs(68, maxSigs-2, maxSig)...)},
		{sigs(0, 4, 4), slices.Concat(sigs(0, 4, 4), sigs(4, 2, maxSig), sigs(68, maxSigs-6, maxSig))},
		{[]string{""}, slices.Concat([]string{""}, sigs(0, 4, 4), sigs(4, 2, maxSig), sigs(68, maxSigs-7, maxSig))},
	} {
		ok(t, d.Register([]api.Info{{Path: a, Sigs: mixed(x.more)}}))
		has(t, d, api.Info{Path: a, Sigs: x.want})
		ok(t, d.Commit())
		has(t, opened(t, f), api.Info{Path: a, Sigs: x.want})
	}
	ok(t, d.Remove(a))
	tells(t, d, nothing())
}

// P11.2: as many Refs as may be, of paths as long as may be, out of order and in one list with them.
func TestMaxRefs(t *testing.T) {
	f, d := made(t)
	var refs []api.Path
	l := []api.Info{{}}
	for i := range api.MaxRefs {
		refs = append(refs, long(i))
		l = append(l, one(long(i)))
	}
	hub := named("hub")
	l[0] = one(hub, mixed(refs)...)
	ok(t, d.Register(l))
	has(t, d, one(hub, refs...))
	ok(t, d.Commit())
	d = opened(t, f)
	has(t, d, one(hub, refs...))
	for _, p := range refs {
		lists(t, d.Referrers(p), hub)
	}
	answers(t, d.Register([]api.Info{one(named("more"), append(refs, hub)...)}), api.ErrLong)
	ok(t, d.Register([]api.Info{one(named("more"), append(refs[1:], hub)...)}))
	lists(t, d.Referrers(refs[0]), hub)
	lists(t, d.Referrers(refs[1]), rising(hub, named("more"))...)
}

// P11.2: more referrers, all with the same digits, than one value could tell.
func TestManyReferrers(t *testing.T) {
	n := rounds(2000)
	f, d := made(t)
	hub := long(0)
	l := []api.Info{one(hub)}
	var users []api.Path
	for i := range n {
		users = append(users, long(i+1))
		l = append(l, one(long(i+1), hub))
	}
	ok(t, d.Register(mixed(l)))
	lists(t, d.Referrers(hub), users...)
	ok(t, d.Commit())
	d = opened(t, f)
	lists(t, d.Referrers(hub), users...)
	for i, p := range mixed(users) {
		ok(t, d.Remove(p))
		if i%200 > 0 {
			continue
		}
		if left := len(d.Referrers(hub)); left != n-i-1 {
			t.Fatalf("%d are left behind %d", left, i)
		}
	}
	lists(t, d.All(), hub)
	ok(t, d.Remove(hub))
}

// P11.2: rings of each length, with ways into them and out of them, and no ring but for one step.
func TestRings(t *testing.T) {
	for _, n := range []int{2, 3, 4, 7, 100} {
		for _, order := range []func([]api.Info) []api.Info{slices.Clone[[]api.Info], mixed[api.Info], reversed[[]api.Info]} {
			all := some(n + 2)
			f, d := made(t, one(named("valid")))
			var l []api.Info
			for i := range n {
				l = append(l, one(all[i], all[i], all[(i+1)%n], all[n], named("valid")))
			}
			// One below the ring, one above it.
			l = append(l, one(all[n], named("valid")), one(all[n+1], all[0], all[n-1]))
			stays(t, f, d, func() { answers(t, d.Register(order(l)), api.ErrLoop) })
			l[n-1].Refs = []api.Path{all[n]}
			ok(t, d.Register(order(l)))
			want, e := d.Closure([]api.Path{all[n+1]})
			ok(t, e)
			lists(t, want, rising(append(all, named("valid"))...)...)
		}
	}
}

// P11.2: what the Infos of valid paths tell makes no ring.
func TestRingsThroughValid(t *testing.T) {
	a, b, x, y := named("a"), named("b"), named("x"), named("y")
	f, d := made(t, one(a), one(b, a))
	stays(t, f, d, func() {
		answers(t, d.Register([]api.Info{one(a, b), one(b, a)}), api.OK)
		answers(t, d.Register([]api.Info{one(a, x), one(x, y, b), one(y, a, x)}), api.ErrLoop)
	})
	ok(t, d.Register([]api.Info{one(a, x), one(x, b), one(y, a, x)}))
	has(t, d, one(a))
	has(t, d, one(x, b))
	has(t, d, one(y, rising(a, x)...))
	lists(t, d.Referrers(x), y)
}

// P11.2: many ways to the same paths are no ring, and are gone through once.
func TestManyWays(t *testing.T) {
	_, d := made(t)
	all := some(120)
	var l []api.Info
	for i, p := range all {
		l = append(l, one(p, all[max(0, i-9):i]...))
	}
	ok(t, d.Register(reversed(l)))
	got, e := d.Order(mixed(all))
	ok(t, e)
	lists(t, got, all...)
}

// P11.2, W1: a chain that is longer than calls may be nested, with a ring at its end or without one.
func TestLongChain(t *testing.T) {
	_, d := made(t)
	n := rounds(200_000)
	var l []api.Info
	for i := range n {
		l = append(l, one(long(i), long(i+1)))
	}
	answers(t, d.Register(append(l, one(long(n), long(n-1)))), api.ErrLoop)
	tells(t, d, nothing())
	n = rounds(3000)
	ok(t, d.Register(append(slices.Clone(l[:n]), one(long(n)))))
	got, e := d.Order(d.All())
	ok(t, e)
	lists(t, got, reversed(d.All())...)
	got, e = d.Order([]api.Path{long(0), long(n)})
	ok(t, e)
	lists(t, got, long(n), long(0))
}

// P11.2, P11.7: Register and Remove at random, of few paths, against the model.
func TestRegisterAtRandom(t *testing.T) {
	r := dice()
	all := append(some(3), alike("a"), alike("b"))
	seen := map[api.Errno]int{}
	for range rounds(400) {
		_, d := made(t)
		want := nothing()
		for range 30 {
			if r.IntN(4) == 0 {
				p := all[r.IntN(len(all))]
				answers(t, d.Remove(p), want.remove(p))
			}
			var l []api.Info
			for range r.IntN(5) {
				l = append(l, anyInfo(r.IntN, all))
			}
			e := want.register(l)
			seen[e]++
			answers(t, d.Register(l), e)
			tells(t, d, want)
			if t.Failed() {
				t.Fatalf("%v", l)
			}
		}
	}
	for _, e := range []api.Errno{api.OK, api.ErrForm, api.ErrArg, api.ErrLong, api.ErrHas, api.ErrRef, api.ErrLoop} {
		if seen[e] == 0 {
			t.Errorf("%v was never asked for", e)
		}
	}
}

// anyInfo is an Info at random, seldom a wrong one.
func anyInfo(pick func(int) int, all []api.Path) api.Info {
	x := api.Info{Path: all[pick(len(all))], Hash: hash(pick(12) / 11), Size: pick(40) - pick(2)*pick(2)*pick(40)}
	for range pick(3) {
		x.Refs = append(x.Refs, all[pick(len(all))])
	}
	x.Sigs = sigs(pick(90), pick(50), 4+pick(30))
	switch pick(60) {
	case 0:
		x.Refs = append(x.Refs, "bad")
	case 1:
		x.Sigs = append(x.Sigs, strings.Repeat("s", maxSig+1))
	case 2:
		x.Deriver = "bad"
	case 3, 4, 5, 6, 7, 8:
		x.Deriver = all[pick(len(all))]
	}
	return x
}

// P11.7: registering and removing what nothing refers to changes nothing.
func TestRegisterAndRemove(t *testing.T) {
	all := some(12)
	var l []api.Info
	for i, p := range all[:8] {
		l = append(l, api.Info{Path: p, Refs: all[:i], Sigs: sigs(i, 5, 9)})
	}
	_, d := made(t, l...)
	ok(t, d.Realise(api.Realised{Drv: all[0], Out: "out", Path: all[1]}))
	want := told(t, d, output{all[0], "out"})
	for _, x := range []api.Info{one(all[9]), one(all[9], all[9]), {Path: all[9], Refs: all[:8], Sigs: sigs(0, 64, 500), Deriver: all[3], Size: 9}} {
		for range 3 {
			ok(t, d.Register([]api.Info{x}))
			ok(t, d.Remove(x.Path))
			tells(t, d, want)
		}
	}
}

// reversed is a list from its end on.
func reversed[S ~[]T, T any](l S) S {
	l = slices.Clone(l)
	slices.Reverse(l)
	return l
}
