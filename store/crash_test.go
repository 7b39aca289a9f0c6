package store_test

import (
	"slices"
	"testing"

	"pantry/api"
	"pantry/fs"
	"pantry/store"
	"pantry/tree"
)

// change is one of those that a store may do, with what it has behind it.
type change struct {
	name  string
	do    func(s *store.Store) api.Errno
	after func(t *testing.T, before model) model
}

// changes is some of each kind, for a store that has what base tells.
func changes(a, b, c api.Path) []change {
	x, y := dir(entry{"a", file("1")}, entry{"d", dir(entry{"e", exec("e")})}, entry{"l", link("a")}), file("y")
	p, q, r := told("p"), told("q"), told("r")
	infos := []api.Info{info(p, x, q, a), info(q, y, q), info(b, two("1", "2")), info(r, dir(), p, b)}
	infos[0].Sigs, infos[1].Deriver = []string{"s"}, r
	trees := []api.Tree{x, y, two("1", "2"), dir()}
	gone := func(l ...api.Path) func(t *testing.T, before model) model {
		return func(t *testing.T, before model) model { return before.without(l...) }
	}
	return []change{
		{"AddTree", func(s *store.Store) api.Errno {
			_, e := s.AddTree(x, "x", []api.Path{c, a})
			return e
		}, func(t *testing.T, before model) model {
			return before.with(info(sourceOf(t, x, "x", a, c), x, a, c), x)
		}},
		{"AddTree of no File", func(s *store.Store) api.Errno {
			_, e := s.AddTree(link("x"), "x", nil)
			return e
		}, func(t *testing.T, before model) model {
			return before.with(info(sourceOf(t, link("x"), "x"), link("x")), link("x"))
		}},
		{"AddText", func(s *store.Store) api.Errno {
			_, e := s.AddText([]byte("text"), "x", []api.Path{b})
			return e
		}, func(t *testing.T, before model) model {
			return before.with(info(textOf(t, "text", "x", b), file("text"), b), file("text"))
		}},
		{"Add", func(s *store.Store) api.Errno { return s.Add(infos, trees) }, func(t *testing.T, before model) model {
			return before.with(infos[0], x).with(infos[1], y).with(infos[3], dir())
		}},
		{"Add of none", func(s *store.Store) api.Errno { return s.Add(nil, nil) }, gone()},
		{"Add of what is valid", func(s *store.Store) api.Errno { return s.Add(infos[2:3], trees[2:3]) }, gone()},
		{"Delete of one", func(s *store.Store) api.Errno { return s.Delete([]api.Path{c}) }, gone(c)},
		{"Delete of all", func(s *store.Store) api.Errno { return s.Delete([]api.Path{b, a, c, b}) }, gone(a, b, c)},
		{"Delete of none", func(s *store.Store) api.Errno { return s.Delete(nil) }, gone()},
		{"Optimise", func(s *store.Store) api.Errno {
			_, e := s.Optimise()
			return e
		}, gone()},
		{"Clean", func(s *store.Store) api.Errno {
			_, e := s.Clean()
			return e
		}, gone()},
	}
}

// base is a disk with some paths, files that are alike, a name `o`, and stray names; some of them are one file.
func base(t *testing.T, room int) (f *fs.FS, a, b, c api.Path, want model) {
	t.Helper()
	f = disk(t, room)
	s := opened(t, f)
	a, b = texted(t, s, "1", "a"), told("b")
	x := info(b, two("1", "2"), a, b)
	ok(t, s.Add([]api.Info{x}, []api.Tree{two("1", "2")}))
	c = added(t, s, two("2", "1"), "c", b)
	put(t, f, "o", "1")
	put(t, f, "s/stray", "1")
	ok(t, f.Link(dataName(b, "b"), "s/stray/b"))
	ok(t, f.Link(skeletonName(b), "t/stray"))
	ok(t, f.Sync())
	want = model{}.with(info(a, file("1")), file("1")).with(x, two("1", "2")).with(info(c, two("2", "1"), b), two("2", "1"))
	has(t, s, want)
	return f, a, b, c, want
}

// P13.8, P13.9, P0.1, P0.2: wherever the fuse burns, and whatever a crash keeps, a change is there wholly or not at
// all; what is valid has its tree; what was left may be taken away; and the change may be done once more.
func TestCrash(t *testing.T) {
	f0, a, b, c, before := base(t, room)
	for _, x := range changes(a, b, c) {
		after := x.after(t, before)
		n := 0
		for ; ; n++ {
			f := f0.Copy()
			s := opened(t, f)
			f.Fuse(n)
			e := x.do(s)
			if e == api.OK {
				f.Fuse(-1)
				has(t, s, after)
				has(t, opened(t, crashed(f, 0)), after)
				break
			}
			answers(t, e, api.ErrDead)
			isDead(t, s, a)
			either(t, s, before, after)
			for _, keep := range keeps(f, 60) {
				behind(t, crashed(f, keep), x, before, after)
			}
			if t.Failed() {
				t.Fatalf("%s, a fuse of %d", x.name, n)
			}
		}
		if n < 1 {
			t.Errorf("%s: it asks the FS nothing", x.name)
		}
	}
}

// either asks for one of two models; which one it is.
func either(t *testing.T, s *store.Store, before, after model) bool {
	t.Helper()
	is := slices.Equal(s.DB().All(), after.all())
	if is {
		has(t, s, after)
	} else {
		has(t, s, before)
	}
	sound(t, s)
	return is
}

// behind asks for what is to be behind a crash.
func behind(t *testing.T, f *fs.FS, x change, before, after model) {
	t.Helper()
	s := opened(t, f)
	done := either(t, s, before, after)
	stray := s.Stray()
	n, e := s.Clean()
	counts(t, n, e, len(stray), api.OK)
	if done {
		holds(t, s, after)
	} else {
		holds(t, s, before)
		answers(t, x.do(s), api.OK)
		holds(t, s, after)
	}
	n, e = s.Optimise()
	answers(t, e, api.OK)
	holds(t, opened(t, crashed(f, 0)), after)
}

// P13.2, P13.3: in the order of the list the Files are written by their places, then the skeleton; then all is Synced
// ahead of what the DB does.
func TestAddSteps(t *testing.T) {
	x := dir(entry{"a", dir(entry{"b", file("2")})}, entry{"a.c", file("1")}, entry{"z", file("")})
	p, q, r := told("p"), told("q"), told("r")
	infos := []api.Info{info(q, x, r), info(p, file("y")), info(r, link("z"))}
	row := slices.Concat(lies(q, x), lies(p, file("y")), lies(r, link("z")))
	if row[0] != dataName(q, "a.c") || row[1] != dataName(q, "a/b") {
		t.Fatal(row)
	}
	f0, s := empty(t)
	p0 := texted(t, s, "0", "0")
	valid := f0.Names("")
	for n := range len(row) + 2 {
		f := f0.Copy()
		s := opened(t, f)
		f.Fuse(n)
		answers(t, s.Add(infos, []api.Tree{x, file("y"), link("z")}), api.ErrDead)
		wrote := rising(row[:min(n, len(row))]...)
		lists(t, s.Stray(), wrote...)
		lists(t, without(f.Names(""), valid), wrote...)
		lists(t, s.DB().All(), p0)
		if n > len(row) {
			f.Crash(0)
			lists(t, opened(t, f).Stray(), wrote...)
			continue
		}
		if f.Pending() != n {
			t.Errorf("behind %d things %d are pending", n, f.Pending())
		}
		for keep := range n + 1 {
			lists(t, opened(t, crashed(f, keep)).Stray(), rising(row[:keep]...)...)
		}
	}
}

// without is a list without what another one has.
func without(l, less []string) []string {
	return slices.DeleteFunc(slices.Clone(l), func(name string) bool { return slices.Contains(less, name) })
}

// P13.5: first what is registered goes, and that lasts; then the files, by the order of names, and then all is Synced.
func TestDeleteSteps(t *testing.T) {
	f0, s := empty(t)
	a, b, c, want := row(t, s)
	l := []api.Path{c, a, b}
	var gone []string
	for _, p := range l {
		gone = append(gone, lies(p, want[p].tree)...)
	}
	gone = rising(gone...)
	all := 0
	for ; ; all++ {
		f := f0.Copy()
		s := opened(t, f)
		f.Fuse(all)
		if s.Delete(l) == api.OK {
			break
		}
	}
	first := all - 1 - len(gone)
	if first < 1 {
		t.Fatal(all)
	}
	for n := range all {
		f := f0.Copy()
		s := opened(t, f)
		f.Fuse(n)
		answers(t, s.Delete(l), api.ErrDead)
		went := max(n-first, 0)
		lists(t, slices.Concat(f.Names("s/"), f.Names("t/")), gone[went:]...)
		if n < first {
			has(t, s, want)
		} else {
			holds(t, opened(t, crashed(f, 1<<20)), model{}, gone[went:]...)
		}
		if n >= first && f.Pending() != went {
			t.Errorf("%d are pending, not %d", f.Pending(), went)
		}
	}
}

// P13.6: of each File that becomes another one, the name `o` is Removed if it is there, Linked, and Renamed; then all
// is Synced.
func TestOptimiseSteps(t *testing.T) {
	f0, s := empty(t)
	x := dir(entry{"a", file("1")}, entry{"b", file("2")}, entry{"c", file("1")}, entry{"d", file("2")}, entry{"e", file("1")})
	p := added(t, s, x, "p")
	put(t, f0, "o", "other")
	ok(t, f0.Sync())
	name := func(place string) string { return dataName(p, place) }
	step := f0.Copy()
	steps := []func() api.Errno{
		func() api.Errno { return step.Remove("o") },
		func() api.Errno { return step.Link(name("a"), "o") },
		func() api.Errno { return step.Rename("o", name("c")) },
		func() api.Errno { return step.Link(name("b"), "o") },
		func() api.Errno { return step.Rename("o", name("d")) },
		func() api.Errno { return step.Link(name("a"), "o") },
		func() api.Errno { return step.Rename("o", name("e")) },
	}
	for n := range len(steps) + 1 {
		f := f0.Copy()
		s := opened(t, f)
		f.Fuse(n)
		k, e := s.Optimise()
		counts(t, k, e, 0, api.ErrDead)
		if f.Pending() != n || state(f) != state(step) {
			t.Errorf("behind %d things it is\n%s, not\n%s", n, state(f), state(step))
		}
		for keep := range n + 1 {
			again := crashed(f, keep)
			has(t, opened(t, again), model{}.with(info(p, x), x))
			if _, e := opened(t, again).Optimise(); e != api.OK {
				t.Error(e)
			}
			holds(t, opened(t, again), model{}.with(info(p, x), x))
		}
		if n < len(steps) {
			ok(t, steps[n]())
		}
	}
	f0.Fuse(len(steps) + 1)
	k, e := s.Optimise()
	counts(t, k, e, 3, api.OK)
	if state(f0) != state(step) {
		t.Error(state(f0))
	}
}

// P13.7: stray names are Removed, and then all is Synced.
func TestCleanSteps(t *testing.T) {
	f0, s := empty(t)
	p := texted(t, s, "x", "x")
	stray := []string{"s/a", "s/b/c", "t/a", "t/b"}
	for _, name := range stray {
		put(t, f0, name, name)
	}
	ok(t, f0.Sync())
	for n := range len(stray) + 1 {
		f := f0.Copy()
		s := opened(t, f)
		f.Fuse(n)
		k, e := s.Clean()
		counts(t, k, e, 0, api.ErrDead)
		left := s.Stray()
		if len(left) != len(stray)-n || f.Pending() != n {
			t.Errorf("behind %d things %q are left, %d pending", n, left, f.Pending())
		}
		has(t, s, model{}.with(info(p, file("x")), file("x")))
		f.Crash(0)
		lists(t, opened(t, f).Stray(), stray...)
	}
}

// P13.2, P13.8: an error of the FS lets nothing be registered: what others changed in the DB is gone with it.
func TestDropped(t *testing.T) {
	f, s := empty(t)
	drv := told("d")
	ok(t, s.DB().Realise(api.Realised{Drv: drv, Out: "out", Path: drv}))
	f.Fuse(2)
	p, e := s.AddText([]byte("x"), "x", nil)
	refuses(t, p, e, api.ErrDead)
	lists(t, s.DB().All())
	if _, e := s.DB().Realised(drv, "out"); e != api.ErrNone {
		t.Error(e)
	}
}

// P13.9: an add that is done again behind a crash has its own files, though what broke off left some that share others.
func TestAddOverShared(t *testing.T) {
	f, s := empty(t)
	x, y := two("1", "1"), two("1", "2")
	p, q := added(t, s, x, "p"), added(t, s, y, "q")
	optimises(t, s, 2)
	// All is deleted but the files.
	for fuse := 0; ; fuse++ {
		c := f.Copy()
		s := opened(t, c)
		c.Fuse(fuse)
		if s.Delete([]api.Path{p}) == api.OK {
			break
		}
		c.Crash(fuse)
		s = opened(t, c)
		if l := s.DB().All(); len(l) > 1 {
			continue
		}
		ok(t, s.Add([]api.Info{info(p, y)}, []api.Tree{y}))
		for _, z := range []api.Path{p, q} {
			if w, e := s.Tree(z); e != api.OK || !tree.Same(w, y) {
				t.Error(z, w, e)
			}
			answers(t, s.Verify(z), api.OK)
		}
	}
}
