package db_test

import (
	"strings"
	"testing"

	"pantry/api"
	"pantry/btree"
	"pantry/db"
	"pantry/fs"
)

// The chapter's example.
func TestExample(t *testing.T) {
	_, d := made(t)
	a, b := named("a"), named("b")
	answers(t, d.Register([]api.Info{one(a), one(b, a)}), api.OK)
	answers(t, d.Remove(a), api.ErrUsed)
	lists(t, d.Referrers(a), b)
	l, e := d.Closure([]api.Path{b})
	answers(t, e, api.OK)
	lists(t, l, rising(a, b)...)
}

// P11.1: what may not be handed in.
func TestOpenWrong(t *testing.T) {
	f := disk(t, 1<<20)
	for _, x := range []struct {
		f    *fs.FS
		name string
	}{{nil, "db"}, {f, ""}, {f, strings.Repeat("n", 101)}, {nil, ""}, {f, strings.Repeat("n", 1<<16)}} {
		if d, e := db.Open(x.f, x.name); d != nil || e != api.ErrArg {
			t.Errorf("Open(%v, %.20q): %v, %v", x.f, x.name, d, e)
		}
	}
	if len(f.Names("")) != 0 {
		t.Error("there are files")
	}
}

// P11.1: a new one has nothing; names that are as short and as long as may be.
func TestOpen(t *testing.T) {
	f := disk(t, 1<<24)
	a, b := named("a"), named("b")
	for i, name := range []string{"n", strings.Repeat("n", 100), "\x00\xff/", "db"} {
		d, e := db.Open(f, name)
		ok(t, e)
		tells(t, d, nothing())
		ok(t, d.Register([]api.Info{{Path: a, Size: i}, one(b, a)}))
		ok(t, d.Commit())
		d, e = db.Open(f, name)
		ok(t, e)
		has(t, d, api.Info{Path: a, Size: i})
		lists(t, d.All(), rising(a, b)...)
		for _, file := range f.Names("") {
			ok(t, f.Remove(file))
		}
	}
}

// P11.1: Open tells what lasts, and not what does not; it needs no fuse.
func TestOpenTellsWhatLasts(t *testing.T) {
	a, b := named("a"), named("b")
	f, d := made(t, one(a))
	ok(t, d.Realise(api.Realised{Drv: a, Out: "out", Path: b}))
	ok(t, d.Register([]api.Info{one(b)}))
	lists(t, opened(t, f).All(), a)
	unrealised(t, opened(t, f), a, "out")
	ok(t, d.Commit())
	f.Fuse(0)
	lists(t, opened(t, f).All(), rising(a, b)...)
	realised(t, opened(t, f), a, "out", b)
}

// P11.3: All, with paths that have the same digits, and with names that begin with others.
func TestAll(t *testing.T) {
	_, d := made(t)
	lists(t, d.All())
	l := []api.Path{alike("b"), alike("a"), alike("a-"), alike("a+"), alike("aa"), alike("B"), alike("?"), alike("0"), alike("_"), named("b"), named("a"), long(2), long(1)}
	for i, p := range l {
		ok(t, d.Register([]api.Info{one(p)}))
		lists(t, d.All(), rising(l[:i+1]...)...)
	}
	for i, p := range l {
		ok(t, d.Remove(p))
		lists(t, d.All(), rising(l[i+1:]...)...)
	}
}

// P11.3: Get of what is not valid.
func TestGetNone(t *testing.T) {
	a := named("a")
	_, d := made(t, one(a))
	for _, p := range append(wrongPaths(), named("b"), alike("a"), a[1:], a[:len(a)-1], a+"a", a+"/", a+"\x00", "\x01"+a, "\x02", "\x03\x00\x00\x00\x01") {
		lacks(t, d, p)
	}
	has(t, d, one(a))
}

// P11.3: Remove, in whatever order.
func TestRemove(t *testing.T) {
	a, b, c, x := named("a"), named("b"), named("c"), named("x")
	_, d := made(t, one(a), one(b, a), one(c, a, b), one(x))
	for _, p := range append(wrongPaths(), named("none")) {
		answers(t, d.Remove(p), api.ErrNone)
	}
	answers(t, d.Remove(a), api.ErrUsed)
	answers(t, d.Remove(b), api.ErrUsed)
	lists(t, d.All(), rising(a, b, c, x)...)
	answers(t, d.Remove(c), api.OK)
	answers(t, d.Remove(c), api.ErrNone)
	lacks(t, d, c)
	answers(t, d.Remove(a), api.ErrUsed)
	lists(t, d.Referrers(a), b)
	lists(t, d.Referrers(b))
	answers(t, d.Remove(b), api.OK)
	answers(t, d.Remove(a), api.OK)
	lists(t, d.All(), x)
	answers(t, d.Remove(x), api.OK)
	tells(t, d, nothing())
}

// P11.3: a path that only itself refers to goes, and comes again.
func TestRemoveOfItself(t *testing.T) {
	a, b := named("a"), named("b")
	_, d := made(t, one(a, a), one(b, a, b))
	lists(t, d.Referrers(a), rising(a, b)...)
	answers(t, d.Remove(a), api.ErrUsed)
	answers(t, d.Remove(b), api.OK)
	lists(t, d.Referrers(a), a)
	answers(t, d.Remove(a), api.OK)
	lists(t, d.Referrers(a))
	tells(t, d, nothing())
	ok(t, d.Register([]api.Info{one(a)}))
	lists(t, d.Referrers(a))
	has(t, d, one(a))
	answers(t, d.Remove(a), api.OK)
}

// P11.3: what was registered of a path that was removed is not seen in what comes behind it.
func TestRemoveTakesAll(t *testing.T) {
	a, b, c := named("a"), named("b"), named("c")
	f, d := made(t, one(a))
	for _, p := range []api.Path{b, c, b} {
		lacks(t, d, p)
		lists(t, d.Referrers(a))
		ok(t, d.Register([]api.Info{{Path: p, Hash: hash(1), Size: 9, Refs: []api.Path{a, p}, Deriver: c, Sigs: sigs(0, 64, 300)}}))
		lists(t, d.Referrers(a), p)
		ok(t, d.Remove(p))
		ok(t, d.Register([]api.Info{one(p)}))
		has(t, d, one(p))
		lists(t, d.Referrers(a))
		lists(t, d.Referrers(p))
		ok(t, d.Remove(p))
	}
	ok(t, d.Remove(a))
	ok(t, d.Commit())
	// Nothing is left that would take room.
	x, e := btree.Open(f, "db")
	ok(t, e)
	if x.Len() != 0 {
		t.Errorf("%d keys are left", x.Len())
	}
}

// P11.3: Referrers of what is valid or not.
func TestReferrers(t *testing.T) {
	all := some(40)
	hub, lone := named("hub"), named("lone")
	l := []api.Info{one(hub, hub), one(lone)}
	for _, p := range mixed(all) {
		l = append(l, one(p, hub))
	}
	_, d := made(t, l...)
	lists(t, d.Referrers(hub), rising(append(all, hub)...)...)
	for _, p := range append(wrongPaths(), lone, named("none"), all[3]) {
		lists(t, d.Referrers(p))
	}
}

// P11.5: Realise and Realised.
func TestRealise(t *testing.T) {
	f, d := made(t)
	a, b, c := named("a"), named("b"), named("c")
	r := api.Realised{Drv: a, Out: "out", Path: b}
	unrealised(t, d, a, "out")
	for range 2 {
		answers(t, d.Realise(r), api.OK)
		realised(t, d, a, "out", b)
	}
	answers(t, d.Realise(api.Realised{Drv: a, Out: "out", Path: c}), api.ErrHas)
	realised(t, d, a, "out", b)
	// Nothing of this need be valid; other outputs and derivations are others.
	tells(t, d, model{nothing().infos, map[output]api.Path{{a, "out"}: b}})
	ok(t, d.Realise(api.Realised{Drv: a, Out: "dev", Path: c}))
	ok(t, d.Realise(api.Realised{Drv: b, Out: "out", Path: b}))
	ok(t, d.Realise(api.Realised{Drv: c, Out: "out", Path: c}))
	want := model{nothing().infos, map[output]api.Path{{a, "out"}: b, {a, "dev"}: c, {b, "out"}: b, {c, "out"}: c}}
	tells(t, d, want)
	ok(t, d.Commit())
	lasts(t, f, want)
	answers(t, opened(t, f).Realise(api.Realised{Drv: a, Out: "out", Path: c}), api.ErrHas)
}

// P11.5: an output of a name and a derivation as long as may be, and those that are alike but for their last byte.
func TestRealiseLong(t *testing.T) {
	f, d := made(t)
	name := strings.Repeat("o", api.MaxName)
	want := nothing()
	for i, o := range []output{{long(1), name}, {long(2), name}, {long(1), name[1:]}, {long(1), name[1:] + "p"}, {long(1), "o"}, {alike("a"), "b"}, {alike("a-b"), "b"}, {alike("a"), "-bb"}} {
		r := api.Realised{Drv: o.drv, Out: o.out, Path: long(i)}
		ok(t, d.Realise(r))
		want.told[o] = r.Path
	}
	tells(t, d, want)
	ok(t, d.Commit())
	lasts(t, f, want)
}

// P11.5: what is no path or no name, and which error comes first.
func TestRealiseWrong(t *testing.T) {
	f, d := made(t)
	a, b := named("a"), named("b")
	ok(t, d.Realise(api.Realised{Drv: a, Out: "out", Path: b}))
	ok(t, d.Commit())
	stays(t, f, d, func() {
		for _, p := range wrongPaths() {
			for _, out := range append(wrongNames(), "out", "dev") {
				answers(t, d.Realise(api.Realised{Drv: p, Out: out, Path: b}), api.ErrForm)
				answers(t, d.Realise(api.Realised{Drv: a, Out: out, Path: p}), api.ErrForm)
				answers(t, d.Realise(api.Realised{Drv: p, Out: out, Path: p}), api.ErrForm)
				unrealised(t, d, p, out)
			}
		}
		for _, out := range wrongNames() {
			answers(t, d.Realise(api.Realised{Drv: a, Out: out, Path: b}), api.ErrName)
			unrealised(t, d, a, out)
		}
		answers(t, d.Realise(api.Realised{Drv: a, Out: "out", Path: a}), api.ErrHas)
		answers(t, d.Realise(api.Realised{Drv: a, Out: "out", Path: b}), api.OK)
	})
	for _, o := range []output{{"", string(a) + "/out"}, {a + "/out", ""}, {a[:9], string(a[9:]) + "/out"}, {a + "/o", "ut"}, {a, "ou"}, {a, "outx"}, {b, "out"}} {
		unrealised(t, d, o.drv, o.out)
	}
	realised(t, d, a, "out", b)
}

// P11.3, P11.5: what was realised stays behind Remove.
func TestRealisedStays(t *testing.T) {
	a, b := named("a"), named("b")
	f, d := made(t, one(a), one(b))
	ok(t, d.Realise(api.Realised{Drv: a, Out: "out", Path: b}))
	ok(t, d.Remove(a))
	ok(t, d.Remove(b))
	realised(t, d, a, "out", b)
	answers(t, d.Realise(api.Realised{Drv: a, Out: "out", Path: a}), api.ErrHas)
	ok(t, d.Commit())
	lasts(t, f, model{nothing().infos, map[output]api.Path{{a, "out"}: b}})
}

// P11.6: Drop behind each kind of change.
func TestDrop(t *testing.T) {
	a, b, c := named("a"), named("b"), named("c")
	signed := api.Info{Path: b, Refs: []api.Path{a}, Sigs: sigs(0, 60, 10)}
	f, d := made(t, one(a), signed)
	ok(t, d.Realise(api.Realised{Drv: a, Out: "out", Path: b}))
	ok(t, d.Commit())
	want := told(t, d, output{a, "out"}, output{a, "dev"})
	for i, change := range []func() api.Errno{
		func() api.Errno { return d.Register([]api.Info{one(c, a)}) },
		func() api.Errno { return d.Register([]api.Info{{Path: b, Sigs: []string{"new"}}}) },
		func() api.Errno { return d.Register([]api.Info{{Path: b, Sigs: sigs(30, 64, 9)}}) },
		func() api.Errno { return d.Remove(b) },
		func() api.Errno { return d.Realise(api.Realised{Drv: a, Out: "dev", Path: c}) },
	} {
		ok(t, change())
		if told(t, d, output{a, "out"}, output{a, "dev"}).same(want) {
			t.Errorf("change %d changes nothing", i)
		}
		d.Drop()
		tells(t, d, want)
		d.Drop()
		tells(t, d, want)
		unrealised(t, d, a, "dev")
		// What was dropped comes again, and does not last till a Commit.
		ok(t, change())
		lasts(t, f, want)
		ok(t, d.Commit())
		d.Drop()
		want = told(t, d, output{a, "out"}, output{a, "dev"})
		lasts(t, f, want)
	}
}

// P11.6, P11.7: several Commits, and a DB opened anew behind each.
func TestCommits(t *testing.T) {
	f, d := made(t)
	want := nothing()
	all := some(30)
	for i, p := range all {
		x := api.Info{Path: p, Hash: hash(i), Size: i, Refs: mixed(append(want.all(), p)), Sigs: sigs(i, i, 20)}
		ok(t, want.register([]api.Info{x}))
		ok(t, d.Register([]api.Info{x}))
		if i%3 == 0 {
			ok(t, want.remove(p))
			ok(t, d.Remove(p))
		}
		r := api.Realised{Drv: p, Out: "out", Path: all[0]}
		answers(t, d.Realise(r), want.realise(r))
		ok(t, d.Commit())
		lasts(t, f, want)
		if i%2 == 0 {
			d = opened(t, f)
		}
		tells(t, d, want)
	}
}
