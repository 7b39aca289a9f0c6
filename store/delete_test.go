package store_test

import (
	"slices"
	"strings"
	"testing"

	"pantry/api"
	"pantry/store"
)

// row is three paths of which each refers to all ahead of it, the second one also to itself; what a store has then.
func row(t *testing.T, s *store.Store) (a, b, c api.Path, want model) {
	t.Helper()
	a = texted(t, s, "a", "a")
	b = told("b")
	x := info(b, two("1", "2"), a, b)
	ok(t, s.Add([]api.Info{x}, []api.Tree{two("1", "2")}))
	c = added(t, s, many(20), "c", b, a)
	want = model{}.with(info(a, file("a")), file("a")).with(x, two("1", "2")).with(info(c, many(20), a, b), many(20))
	return a, b, c, want
}

// P13.5: Delete of none changes nothing, and all is Synced.
func TestDeleteNone(t *testing.T) {
	f, s := empty(t)
	_, _, _, want := row(t, s)
	put(t, f, "x", "")
	ok(t, s.Delete(nil))
	if f.Pending() != 0 {
		t.Error("it does not last")
	}
	ok(t, s.Delete([]api.Path{}))
	holds(t, s, want)
}

// P13.5: all in any order, and some more than once, go with all their files.
func TestDeleteAll(t *testing.T) {
	f0, s := empty(t)
	a, b, c, want := row(t, s)
	for _, l := range [][]api.Path{{a, b, c}, {c, b, a}, {b, a, c}, {b, c, a}, {a, c, b, a, a}, {c, c, b, b, a, a}} {
		f := f0.Copy()
		s := opened(t, f)
		answers(t, s.Verify(c), api.OK)
		ok(t, s.Delete(l))
		holds(t, s, nil)
		for _, p := range l {
			answers(t, s.Verify(p), api.ErrNone)
		}
		if f.Pending() != 0 {
			t.Error("it does not last")
		}
		f.Crash(0)
		holds(t, opened(t, f), nil)
	}
	holds(t, opened(t, f0), want)
}

// P13.5: some go, and what they refer to stays; then that may go.
func TestDeleteSome(t *testing.T) {
	f, s := empty(t)
	a, b, c, want := row(t, s)
	ok(t, s.Delete([]api.Path{c, c}))
	holds(t, s, want.without(c))
	f.Crash(0)
	s = opened(t, f)
	holds(t, s, want.without(c))
	ok(t, s.Delete([]api.Path{b}))
	holds(t, s, want.without(b, c))
	answers(t, s.Delete([]api.Path{b}), api.ErrNone)
	ok(t, s.Delete([]api.Path{a}))
	holds(t, s, nil)
}

// P13.5: one that a valid path refers to does not go alone, nor do others then; one that is not valid errs first.
func TestDeleteWrong(t *testing.T) {
	_, s := empty(t)
	a, b, c, want := row(t, s)
	d := texted(t, s, "d", "d")
	want = want.with(info(d, file("d")), file("d"))
	for _, x := range []struct {
		l []api.Path
		e api.Errno
	}{
		{[]api.Path{a}, api.ErrUsed},
		{[]api.Path{b}, api.ErrUsed},
		{[]api.Path{a, b}, api.ErrUsed},
		{[]api.Path{a, c}, api.ErrUsed},
		{[]api.Path{d, a}, api.ErrUsed},
		{[]api.Path{d, a, c, d}, api.ErrUsed},
		{[]api.Path{a, told("no")}, api.ErrNone},
		{[]api.Path{told("no"), d}, api.ErrNone},
		{[]api.Path{d, "no"}, api.ErrNone},
		{[]api.Path{""}, api.ErrNone},
		{[]api.Path{"\xff", d}, api.ErrNone},
		{[]api.Path{api.Path(strings.Repeat("p", 1<<16))}, api.ErrNone},
	} {
		stays(t, s, func() { answers(t, s.Delete(x.l), x.e) })
		holds(t, s, want)
	}
	ok(t, s.Delete([]api.Path{d}))
}

// P13.5: one that refers to itself alone goes.
func TestDeleteSelf(t *testing.T) {
	_, s := empty(t)
	p := told("p")
	ok(t, s.Add([]api.Info{info(p, file("x"), p)}, []api.Tree{file("x")}))
	ok(t, s.Delete([]api.Path{p}))
	holds(t, s, nil)
}

// P13.5: a name that goes on like that of another path does not go with it.
func TestDeleteNamesAlike(t *testing.T) {
	_, s := empty(t)
	short, long := told("a"), told("a")+"-b"
	infos := []api.Info{info(short, file("short")), info(long, two("1", "2"))}
	ok(t, s.Add(infos, []api.Tree{file("short"), two("1", "2")}))
	want := model{}.with(infos[0], file("short")).with(infos[1], two("1", "2"))
	holds(t, s, want)
	ok(t, s.Delete([]api.Path{short}))
	holds(t, s, want.without(short))
	ok(t, s.Add(infos, []api.Tree{file("short"), two("1", "2")}))
	ok(t, s.Delete([]api.Path{long}))
	holds(t, s, want.without(long))
}

// P13.5: all that lies under a path goes with it, whatever others did to its files; and nothing else goes.
func TestDeleteChanged(t *testing.T) {
	f, s := empty(t)
	p := added(t, s, two("1", "2"), "p")
	put(t, f, dataName(p, "more"), "")
	ok(t, f.Remove(dataName(p, "a")))
	put(t, f, skeletonName(p), "none")
	others := []string{"o", "p/x", "r/x", "s", "s/", "s/x", "s/" + string(p), "t", "t/", "t/x", "t/" + string(p) + "x", "t/" + string(p) + "/x", "u"}
	for _, name := range others {
		put(t, f, name, "")
	}
	ok(t, s.Delete([]api.Path{p}))
	names := slices.DeleteFunc(f.Names(""), func(name string) bool { return strings.HasPrefix(name, "db") })
	lists(t, names, rising(others...)...)
}

// P13.5: what goes may come again, and the same names have what was added last.
func TestDeleteAndAddAgain(t *testing.T) {
	_, s := empty(t)
	p := told("p")
	for _, x := range shapes() {
		ok(t, s.Add([]api.Info{info(p, x.tree)}, []api.Tree{x.tree}))
		holds(t, s, model{}.with(info(p, x.tree), x.tree))
		ok(t, s.Delete([]api.Path{p}))
		holds(t, s, nil)
	}
	for range 3 {
		p := texted(t, s, "x", "x")
		holds(t, s, model{}.with(info(p, file("x")), file("x")))
		ok(t, s.Delete([]api.Path{p}))
	}
}

// P13.5: what is told of outputs stays.
func TestDeleteRealised(t *testing.T) {
	f, s := empty(t)
	p := texted(t, s, "x", "x")
	ok(t, s.DB().Realise(api.Realised{Drv: told("d"), Out: "out", Path: p}))
	ok(t, s.Delete([]api.Path{p}))
	f.Crash(0)
	if q, e := opened(t, f).DB().Realised(told("d"), "out"); e != api.OK || q != p {
		t.Error(q, e)
	}
}
