package store_test

import (
	"slices"
	"strings"
	"testing"

	"pantry/api"
	"pantry/db"
	"pantry/fs"
	"pantry/nar"
	"pantry/store"
	"pantry/tree"
)

// P13.1: without a FS there is no store.
func TestOpenNil(t *testing.T) {
	if s, e := store.Open(nil); s != nil || e != api.ErrArg {
		t.Error(s, e)
	}
}

// P13.1: Open's error is that of the DB: what is pending can't be made to last where the fuse is burnt.
func TestOpenErrs(t *testing.T) {
	f, s := empty(t)
	p := texted(t, s, "x", "x")
	put(t, f, "more", "")
	f.Fuse(0)
	if s, e := store.Open(f); s != nil || e != api.ErrDead {
		t.Error(s, e)
	}
	f.Fuse(-1)
	answers(t, opened(t, f).Verify(p), api.OK)
}

// P13.1: an empty FS is an empty store.
func TestOpenEmpty(t *testing.T) {
	f, s := empty(t)
	holds(t, s, nil)
	if f.Used() != 0 || f.Pending() != 0 {
		t.Error("something is there")
	}
}

// P13.1: what an earlier store left is there, and what a DB of the name `db` has is what is registered.
func TestOpenAgain(t *testing.T) {
	f, s := empty(t)
	want := model{}
	for _, x := range shapes() {
		p := added(t, s, x.tree, x.name)
		want = want.with(info(p, x.tree), x.tree)
	}
	holds(t, s, want)
	holds(t, opened(t, f), want)
	f.Crash(0)
	holds(t, opened(t, f), want)
	d, e := db.Open(f, "db")
	ok(t, e)
	lists(t, d.All(), want.all()...)
}

// P13.1, P13.4: what was registered in the DB by others is valid, even without files; and another DB is not asked.
func TestOpenOthers(t *testing.T) {
	f := disk(t, room)
	p, q := told("p"), told("q")
	for name, x := range map[string]api.Info{"db": info(p, file("x")), "other": info(q, file("x"))} {
		d, e := db.Open(f, name)
		ok(t, e)
		ok(t, d.Register([]api.Info{x}))
		ok(t, d.Commit())
	}
	s := opened(t, f)
	lists(t, s.DB().All(), p)
	answers(t, s.Verify(p), api.ErrForm)
	answers(t, s.Verify(q), api.ErrNone)
	put(t, f, dataName(p, ""), "x")
	put(t, f, skeletonName(p), string(skeleton(file(""))))
	answers(t, s.Verify(p), api.OK)
}

// P13.7: DB and FS are those of the store.
func TestOwn(t *testing.T) {
	f, s := empty(t)
	if s.FS() != f || s.DB() == nil || s.DB() != s.DB() {
		t.Error("others")
	}
	p := told("p")
	ok(t, s.DB().Register([]api.Info{info(p, file("x"))}))
	answers(t, s.Verify(p), api.ErrForm)
	s.DB().Drop()
	answers(t, s.Verify(p), api.ErrNone)
}

// P13.4: of a path that is not valid there is no tree, whatever lies there.
func TestTreeNone(t *testing.T) {
	f, s := empty(t)
	p := told("p")
	put(t, f, dataName(p, ""), "x")
	put(t, f, skeletonName(p), string(skeleton(file(""))))
	for _, p := range []api.Path{p, "", "p", "/", "\xff", api.Path(strings.Repeat("p", 1000))} {
		if x, e := s.Tree(p); e != api.ErrNone || !isZero(x) {
			t.Errorf("Tree(%.100q): %v, %v", p, x, e)
		}
		answers(t, s.Verify(p), api.ErrNone)
	}
}

// isZero tells whether a tree is none.
func isZero(t api.Tree) bool {
	return t.Kind == 0 && !t.Exec && len(t.Data)+len(t.Names)+len(t.Kids) == 0
}

// P13.4: a skeleton that is not there, or is none, is no tree; one of another tree has another digest.
func TestSkeletonChanged(t *testing.T) {
	f, s := empty(t)
	x := dir(entry{"a", file("1")}, entry{"b", exec("2")}, entry{"l", link("a")})
	p := added(t, s, x, "p")
	whole := skeleton(x)
	full, e := nar.Encode(x)
	ok(t, e)
	for i, bad := range []string{"", "x", string(whole[:len(whole)-1]), string(whole) + "\x00", string(full), strings.Replace(string(whole), "directory", "directorY", 1)} {
		put(t, f, skeletonName(p), bad)
		if y, e := s.Tree(p); e != api.ErrForm || !isZero(y) || s.Verify(p) != api.ErrForm {
			t.Errorf("%d: %v, %v", i, y, e)
		}
	}
	// There is no File at one of its places.
	put(t, f, skeletonName(p), string(skeleton(dir(entry{"a", file("")}, entry{"c", file("")}))))
	answers(t, s.Verify(p), api.ErrForm)
	for _, other := range []api.Tree{dir(), file(""), dir(entry{"a", file("1")}), dir(entry{"a", file("1")}, entry{"b", file("2")}, entry{"l", link("a")}), dir(entry{"a", file("1")}, entry{"b", exec("2")}, entry{"l", link("b")})} {
		put(t, f, skeletonName(p), string(skeleton(other)))
		if other.Kind == api.File {
			answers(t, s.Verify(p), api.ErrForm)
			continue
		}
		if y, e := s.Tree(p); e != api.OK || !tree.Same(y, other) || s.Verify(p) != api.ErrHash {
			t.Error(y, e)
		}
	}
	ok(t, f.Remove(skeletonName(p)))
	if y, e := s.Tree(p); e != api.ErrForm || !isZero(y) || s.Verify(p) != api.ErrForm {
		t.Error(y, e)
	}
	put(t, f, skeletonName(p), string(whole))
	answers(t, s.Verify(p), api.OK)
}

// P13.4: Verify tells each change of a File's bytes, also behind one that was OK; Tree tells what is there.
func TestDataChanged(t *testing.T) {
	for _, shape := range []shape{{"f", file("1")}, {"e", exec("")}, {"t", two("1", "22")}, {"d", deep(api.MaxDeep, file("deep"))}, {"l", file(strings.Repeat("y", api.MaxFile))}} {
		f, s := empty(t)
		p := added(t, s, shape.tree, shape.name)
		for _, name := range f.Names("s/") {
			whole, e := f.Read(name)
			ok(t, e)
			for _, other := range []string{string(whole) + "x", "other", strings.Repeat("\x00", len(whole)+8)} {
				if len(other) > api.MaxFile {
					continue
				}
				put(t, f, name, other)
				y, e := s.Tree(p)
				place := strings.TrimPrefix(name, dataName(p, ""))
				if e != api.OK || data(t, y, place) != other {
					t.Errorf("Tree: %v, %v", y, e)
				}
				answers(t, s.Verify(p), api.ErrHash)
				answers(t, opened(t, f.Copy()).Verify(p), api.ErrHash)
			}
			ok(t, f.Remove(name))
			if y, e := s.Tree(p); e != api.ErrForm || !isZero(y) || s.Verify(p) != api.ErrForm {
				t.Error(y, e)
			}
			put(t, f, name, string(whole))
			answers(t, s.Verify(p), api.OK)
		}
	}
}

// P13.4: what is registered may be another digest than that of the tree.
func TestVerifyRegistered(t *testing.T) {
	f, s := empty(t)
	x := two("1", "2")
	for i, wrong := range []api.Info{info(told("p"), two("1", "3")), {Path: told("q"), Hash: info("", x).Hash}, {Path: told("r"), Size: info("", x).Size}} {
		ok(t, s.DB().Register([]api.Info{wrong}))
		put(t, f, dataName(wrong.Path, "a"), "1")
		put(t, f, dataName(wrong.Path, "b"), "2")
		put(t, f, skeletonName(wrong.Path), string(skeleton(x)))
		y, e := s.Tree(wrong.Path)
		if e != api.OK || !tree.Same(x, y) || s.Verify(wrong.Path) != api.ErrHash {
			t.Error(i, y, e)
		}
	}
}

// P13.4: Tree and Verify go on with a burnt fuse, and behind an ErrDead.
func TestAskedWhenDead(t *testing.T) {
	f, s := empty(t)
	p := texted(t, s, "x", "x")
	f.Fuse(0)
	answers(t, s.Verify(p), api.OK)
	_, e := s.AddText([]byte("y"), "y", nil)
	answers(t, e, api.ErrDead)
	has(t, s, model{}.with(info(p, file("x")), file("x")))
	lists(t, s.Stray())
}

// P13.10: a nil store, and one that Open did not make, is one to which nothing happens.
func TestNil(t *testing.T) {
	p := told("p")
	for _, s := range []*store.Store{nil, {}} {
		for range 2 {
			for _, name := range []string{"a", ""} {
				p, e := s.AddTree(file("x"), name, nil)
				refuses(t, p, e, api.ErrArg)
				p, e = s.AddTree(api.Tree{}, name, []api.Path{"no"})
				refuses(t, p, e, api.ErrArg)
				p, e = s.AddText(nil, name, []api.Path{p})
				refuses(t, p, e, api.ErrArg)
			}
			answers(t, s.Add(nil, nil), api.ErrArg)
			answers(t, s.Add([]api.Info{info(p, file("x"))}, []api.Tree{file("x")}), api.ErrArg)
			answers(t, s.Add([]api.Info{info(p, file("x"))}, nil), api.ErrArg)
			answers(t, s.Delete(nil), api.ErrArg)
			answers(t, s.Delete([]api.Path{p}), api.ErrArg)
			n, e := s.Optimise()
			counts(t, n, e, 0, api.ErrArg)
			n, e = s.Clean()
			counts(t, n, e, 0, api.ErrArg)
			x, e := s.Tree(p)
			if e != api.ErrNone || !isZero(x) {
				t.Error(x, e)
			}
			answers(t, s.Verify(p), api.ErrNone)
			answers(t, s.Verify(""), api.ErrNone)
			lists(t, s.Stray())
			if s.DB() != nil || s.FS() != nil {
				t.Error("something is there")
			}
		}
	}
}

// P13.8: behind an ErrDead all that changes answers that ahead of all else, even where the fuse is gone; a store that
// is opened anew goes on.
func TestDead(t *testing.T) {
	for i, die := range []func(f *fs.FS, s *store.Store, p api.Path) api.Errno{
		func(f *fs.FS, s *store.Store, p api.Path) api.Errno {
			q, e := s.AddText([]byte("y"), "y", nil)
			refuses(t, q, e, api.ErrDead)
			return e
		},
		func(f *fs.FS, s *store.Store, p api.Path) api.Errno {
			q, e := s.AddTree(file("y"), "y", []api.Path{p})
			refuses(t, q, e, api.ErrDead)
			return e
		},
		func(f *fs.FS, s *store.Store, p api.Path) api.Errno { return s.Add(nil, nil) },
		func(f *fs.FS, s *store.Store, p api.Path) api.Errno {
			return s.Add([]api.Info{info(told("y"), file("y"))}, []api.Tree{file("y")})
		},
		func(f *fs.FS, s *store.Store, p api.Path) api.Errno { return s.Delete(nil) },
		func(f *fs.FS, s *store.Store, p api.Path) api.Errno { return s.Delete([]api.Path{p}) },
		func(f *fs.FS, s *store.Store, p api.Path) api.Errno {
			n, e := s.Optimise()
			counts(t, n, e, 0, api.ErrDead)
			return e
		},
		func(f *fs.FS, s *store.Store, p api.Path) api.Errno {
			n, e := s.Clean()
			counts(t, n, e, 0, api.ErrDead)
			return e
		},
		func(f *fs.FS, s *store.Store, p api.Path) api.Errno {
			ok(t, s.DB().Register([]api.Info{info(told("y"), file("y"))}))
			e := s.DB().Commit()
			s.DB().Drop()
			return e
		},
	} {
		f, s := empty(t)
		p := texted(t, s, "x", "x")
		put(t, f, "s/stray", "")
		f.Fuse(0)
		answers(t, die(f, s, p), api.ErrDead)
		for _, fuse := range []int{0, -1, 1000} {
			f.Fuse(fuse)
			isDead(t, s, p)
		}
		has(t, s, model{}.with(info(p, file("x")), file("x")))
		if t.Failed() {
			t.Fatal(i)
		}
		again := opened(t, f)
		texted(t, again, "y", "y")
		n, e := again.Clean()
		counts(t, n, e, 1, api.OK)
	}
}

// isDead asks for ErrDead of all that changes.
func isDead(t *testing.T, s *store.Store, p api.Path) {
	t.Helper()
	before := state(s.FS())
	for _, x := range []api.Tree{file("x"), file("z"), {}} {
		for _, name := range []string{"x", ""} {
			for _, refs := range [][]api.Path{nil, {p}, {"no"}, {told("no")}} {
				q, e := s.AddTree(x, name, refs)
				refuses(t, q, e, api.ErrDead)
				q, e = s.AddText(x.Data, name, refs)
				refuses(t, q, e, api.ErrDead)
				answers(t, s.Add([]api.Info{info(told("q"), x, refs...)}, []api.Tree{x}), api.ErrDead)
			}
		}
	}
	q, e := s.AddText(make([]byte, api.MaxFile+1), "x", nil)
	refuses(t, q, e, api.ErrDead)
	answers(t, s.Add(nil, nil), api.ErrDead)
	answers(t, s.Add(nil, []api.Tree{{}}), api.ErrDead)
	for _, l := range [][]api.Path{nil, {p}, {"no"}, {p, told("no")}} {
		answers(t, s.Delete(l), api.ErrDead)
	}
	n, e := s.Optimise()
	counts(t, n, e, 0, api.ErrDead)
	n, e = s.Clean()
	counts(t, n, e, 0, api.ErrDead)
	if state(s.FS()) != before {
		t.Error("the files are others")
	}
}

// P13.8: an ErrDead that the DB met counts, whichever call is the first one behind it, and whatever else is wrong.
func TestDeadDB(t *testing.T) {
	for i, do := range []func(s *store.Store, p api.Path) api.Errno{
		func(s *store.Store, p api.Path) api.Errno {
			_, e := s.AddTree(api.Tree{}, "", nil)
			return e
		},
		func(s *store.Store, p api.Path) api.Errno {
			_, e := s.AddText(nil, "", nil)
			return e
		},
		func(s *store.Store, p api.Path) api.Errno {
			_, e := s.AddText([]byte("x"), "x", nil)
			return e
		},
		func(s *store.Store, p api.Path) api.Errno { return s.Add(nil, []api.Tree{{}}) },
		func(s *store.Store, p api.Path) api.Errno { return s.Add(nil, nil) },
		func(s *store.Store, p api.Path) api.Errno { return s.Delete([]api.Path{"no"}) },
		func(s *store.Store, p api.Path) api.Errno { return s.Delete([]api.Path{p}) },
		func(s *store.Store, p api.Path) api.Errno { return s.Delete(nil) },
		func(s *store.Store, p api.Path) api.Errno {
			_, e := s.Optimise()
			return e
		},
		func(s *store.Store, p api.Path) api.Errno {
			_, e := s.Clean()
			return e
		},
	} {
		for _, drop := range []bool{false, true} {
			f, s := empty(t)
			p := texted(t, s, "x", "x")
			texted(t, s, "y", "y", p)
			ok(t, s.DB().Realise(api.Realised{Drv: p, Out: "out", Path: p}))
			f.Fuse(0)
			answers(t, s.DB().Commit(), api.ErrDead)
			if drop {
				s.DB().Drop()
			}
			f.Fuse(-1)
			before := state(f)
			if e := do(s, p); e != api.ErrDead || state(f) != before {
				t.Errorf("%d: %v", i, e)
			}
		}
	}
}

// P13.8: a fuse that is burnt, but was not met, leaves each call its own errors, and what it answers without the FS.
func TestBurntButNotMet(t *testing.T) {
	f, s := empty(t)
	p := texted(t, s, "x", "x")
	q := added(t, s, file("x"), "x", p)
	f.Fuse(0)
	texted(t, s, "x", "x")
	added(t, s, file("x"), "x", p)
	r, e := s.AddTree(api.Tree{}, "", nil)
	refuses(t, r, e, api.ErrForm)
	r, e = s.AddText(nil, "", nil)
	refuses(t, r, e, api.ErrName)
	r, e = s.AddText(nil, "x", []api.Path{told("no")})
	refuses(t, r, e, api.ErrRef)
	answers(t, s.Add(nil, []api.Tree{{}}), api.ErrArg)
	answers(t, s.Add([]api.Info{{Path: "no", Hash: info(p, file("")).Hash, Size: info(p, file("")).Size}}, []api.Tree{file("")}), api.ErrForm)
	answers(t, s.Delete([]api.Path{told("no")}), api.ErrNone)
	answers(t, s.Delete([]api.Path{p}), api.ErrUsed)
	f.Fuse(-1)
	ok(t, s.Delete([]api.Path{q, p}))
}

// P13.2, P13.6: the store counts the files that it wrote.
func TestWritten(t *testing.T) {
	f, s := empty(t)
	want := 0
	for _, x := range shapes() {
		p := added(t, s, x.tree, x.name)
		want += len(lies(p, x.tree))
		added(t, s, x.tree, x.name)
	}
	if n, e := s.Optimise(); n == 0 || e != api.OK {
		t.Error(n, e)
	}
	f.Fuse(3)
	_, e := s.AddTree(many(10), "broken", nil)
	answers(t, e, api.ErrDead)
	if n := store.Written(s); n != want+3 {
		t.Errorf("%d files, want %d", n, want+3)
	}
}

// P13.2: of a path that is the name of a text the digest is kept, but not of what is not added.
func TestSums(t *testing.T) {
	f, s := empty(t)
	_, e := s.AddText(nil, "", nil)
	answers(t, e, api.ErrName)
	_, e = s.AddText(nil, "a", []api.Path{told("no")})
	answers(t, e, api.ErrRef)
	if n := store.Sums(s); n != 0 {
		t.Error(n)
	}
	p := texted(t, s, "x", "x")
	sum := store.Sum(s, p)
	for range 3 {
		ok(t, s.Delete([]api.Path{p}))
		texted(t, s, "x", "x")
		texted(t, s, "x", "y")
	}
	if sum == nil || store.Sum(s, p) != sum {
		t.Error("it was reckoned more than once")
	}
	if n := store.Sums(s); n != 2 {
		t.Error(n)
	}
	again := opened(t, f)
	texted(t, again, "x", "x")
	if n := store.Sums(again); n != 0 {
		t.Error(n)
	}
	if l := s.DB().All(); len(l) != 2 || !slices.IsSorted(l) {
		t.Error(l)
	}
}
