package store_test

import (
	"strings"
	"testing"

	"pantry/api"
	"pantry/store"
)

// cleans asks how many names go.
func cleans(t *testing.T, s *store.Store, want int) {
	t.Helper()
	n, e := s.Clean()
	counts(t, n, e, want, api.OK)
	if s.FS().Pending() != 0 {
		t.Error("it does not last")
	}
}

// P13.7: where nothing is stray, nothing goes, and all is Synced.
func TestCleanNothing(t *testing.T) {
	f, s := empty(t)
	cleans(t, s, 0)
	_, _, _, want := row(t, s)
	put(t, f, "x", "")
	lists(t, s.Stray())
	cleans(t, s, 0)
	holds(t, s, want)
	f.Fuse(0)
	n, e := s.Clean()
	counts(t, n, e, 0, api.ErrDead)
}

// P13.7: names that only look like those of a path are stray, rising; what lies under a valid path is not, and no more
// is what begins with something else.
func TestStray(t *testing.T) {
	f, s := empty(t)
	a, b, c, want := row(t, s)
	no := string(told("no"))
	short := string(a[:len(a)-1])
	stray := []string{
		"s/", "s//", "s/x", "s/x/", "s/\xff", "s/\x00/", "s/" + string(a), "s/" + string(a) + "x/y", "s/" + string(a) + "x", "s/" + short, "s/" + short + "/x", "s/ " + string(a) + "/", "s//" + string(a) + "/x",
		"s/" + no, "s/" + no + "/", "s/" + no + "/" + string(a) + "/", "s/" + strings.ToUpper(string(b)) + "/x", "s/" + strings.Repeat("n", 298),
		"t/", "t//", "t/x", "t/" + no, "t/" + string(a) + "/", "t/" + string(a) + "x", "t/" + short, "t//" + string(a), "t/\xff", "t/" + string(b) + "/x", "t/" + strings.Repeat("n", 298),
	}
	others := []string{"s", "t", "s.", "t0", "S/x", "T/x", "r/" + no, "u/", "o", "x/s/" + no, "/s/x", " ", "st/"}
	owned := []string{dataName(c, "more"), dataName(c, ""), dataName(c, "/"), dataName(a, "x/y/z"), dataName(b, "\xff")}
	for _, l := range [][]string{stray, others, owned} {
		for _, name := range l {
			put(t, f, name, name)
		}
	}
	lists(t, s.Stray(), rising(stray...)...)
	has(t, s, want)
	cleans(t, s, len(stray))
	lists(t, s.Stray())
	cleans(t, s, 0)
	for _, l := range [][]string{others, owned} {
		for _, name := range l {
			if b, e := f.Read(name); e != api.OK || string(b) != name {
				t.Errorf("%q: %q, %v", name, b, e)
			}
			ok(t, f.Remove(name))
		}
	}
	holds(t, s, want)
	f.Crash(0)
	has(t, opened(t, f), want)
}

// P13.7: what belongs to a path is stray when that is valid no more, and is not where it comes again.
func TestStrayByTurns(t *testing.T) {
	f, s := empty(t)
	p := texted(t, s, "x", "x")
	ok(t, s.DB().Remove(p))
	lists(t, s.Stray(), lies(p, file("x"))...)
	s.DB().Drop()
	lists(t, s.Stray())
	ok(t, s.Delete([]api.Path{p}))
	put(t, f, dataName(p, "y"), "")
	lists(t, s.Stray(), dataName(p, "y"))
	texted(t, s, "x", "x")
	lists(t, s.Stray())
	ok(t, s.Delete([]api.Path{p}))
	lists(t, s.Stray())
	if l := f.Names("s/"); len(l) != 0 {
		t.Errorf("%q", l)
	}
}

// P13.7, P13.3: an add that broke off leaves files of no path; they go, or are written anew when it is done again.
func TestStrayBehindBrokenAdd(t *testing.T) {
	for _, clean := range []bool{false, true} {
		f, s := empty(t)
		a := texted(t, s, "a", "a")
		row := lies(sourceOf(t, two("1", "2"), "p", a), two("1", "2"))
		for n := range row {
			f.Fuse(n + 1)
			_, e := s.AddTree(two("1", "2"), "p", []api.Path{a})
			answers(t, e, api.ErrDead)
			lists(t, s.Stray(), row[:n+1]...)
			f.Crash(n + 1)
			s = opened(t, f)
			lists(t, s.Stray(), row[:n+1]...)
			if clean {
				cleans(t, s, n+1)
			}
		}
		p := added(t, s, two("1", "2"), "p", a)
		holds(t, s, model{}.with(info(a, file("a")), file("a")).with(info(p, two("1", "2"), a), two("1", "2")))
	}
}

// P13.3: what an add under a told path left does not come to be of the tree that is added there next.
func TestOtherTreeBehindBrokenAdd(t *testing.T) {
	f, s := empty(t)
	p := told("p")
	f.Fuse(8)
	answers(t, s.Add([]api.Info{info(p, many(9))}, []api.Tree{many(9)}), api.ErrDead)
	f.Crash(8)
	s = opened(t, f)
	ok(t, s.Add([]api.Info{info(p, two("1", "2"))}, []api.Tree{two("1", "2")}))
	has(t, s, model{}.with(info(p, two("1", "2")), two("1", "2")))
	optimises(t, s, 0)
	ok(t, s.Delete([]api.Path{p}))
	holds(t, s, nil)
}
