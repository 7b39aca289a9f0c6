package store_test

import (
	"fmt"
	"strings"
	"testing"

	"pantry/api"
	"pantry/fs"
	"pantry/store"
	"pantry/tree"
)

// optimises asks how many files come to be others.
func optimises(t *testing.T, s *store.Store, want int) {
	t.Helper()
	n, e := s.Optimise()
	counts(t, n, e, want, api.OK)
	if s.FS().Pending() != 0 {
		t.Error("it does not last")
	}
}

// names asks which is the least name of a file, and how many it has.
func names(t *testing.T, f *fs.FS, name, first string, n int) {
	t.Helper()
	if least, all := f.Node(name); least != first || all != n {
		t.Errorf("%q is %q, one of %d names, want %q of %d", name, least, all, first, n)
	}
}

// P13.6: the chapter's example; and once more behind that nothing is to be done.
func TestOptimise(t *testing.T) {
	f, s := empty(t)
	x, y := dir(entry{"a", file("same")}, entry{"b", file("1")}), dir(entry{"c", file("2")}, entry{"d", exec("same")})
	p, q := added(t, s, x, "p"), added(t, s, y, "q")
	want := model{}.with(info(p, x), x).with(info(q, y), y)
	used := f.Used()
	optimises(t, s, 1)
	holds(t, s, want)
	first := min(dataName(p, "a"), dataName(q, "d"))
	names(t, f, dataName(p, "a"), first, 2)
	names(t, f, dataName(q, "d"), first, 2)
	names(t, f, dataName(p, "b"), dataName(p, "b"), 1)
	if f.Used() != used-4 {
		t.Errorf("%d bytes, not %d", f.Used(), used-4)
	}
	before := state(f)
	optimises(t, s, 0)
	if state(f) != before {
		t.Error("the files are others")
	}
	f.Crash(0)
	holds(t, opened(t, f), want)
}

// P13.6: a store without anything, and one where nothing is alike: Data of Links, and skeletons, are none of a File.
func TestOptimiseNothing(t *testing.T) {
	f, s := empty(t)
	optimises(t, s, 0)
	for _, x := range []shape{{"a", dir(entry{"a", file("1")}, entry{"b", link("1")}, entry{"c", file("")}, entry{"d", file("11")})}, {"b", dir(entry{"a", link("1")}, entry{"b", dir()}, entry{"c", file("2")})}, {"c", link("1")}, {"d", link("1")}, {"e", dir()}, {"f", dir()}} {
		added(t, s, x.tree, x.name)
	}
	put(t, f, "x", "1")
	put(t, f, "o", "1")
	before := state(f)
	optimises(t, s, 0)
	if state(f) != before {
		t.Error("the files are others")
	}
}

// P13.6: all alike, within one tree and in many; the least name's file is the one that stays.
func TestOptimiseAll(t *testing.T) {
	f, s := empty(t)
	want := model{}
	n := 0
	for i := range 12 {
		name := fmt.Sprint("p", i)
		x := dir(entry{"a", file("same")}, entry{"a.b", exec("same")}, entry{"d", dir(entry{"e", file("same")})})
		p := added(t, s, x, name)
		q := texted(t, s, "same", name)
		want = want.with(info(p, x), x).with(info(q, file("same")), file("same"))
		n += 4
	}
	optimises(t, s, n-1)
	holds(t, s, want)
	all := f.Names("s/")
	for _, name := range all {
		names(t, f, name, all[0], n)
	}
	optimises(t, s, 0)
	f.Crash(0)
	holds(t, opened(t, f), want)
}

// P13.6: files of no byte, and of as many as may be, that differ in their last one.
func TestOptimiseBytes(t *testing.T) {
	f, s := empty(t)
	long := strings.Repeat("x", api.MaxFile-1)
	x := dir(entry{"a", file("")}, entry{"b", file(long + "1")}, entry{"c", file(long + "2")}, entry{"d", file(long + "1")}, entry{"e", exec("")}, entry{"f", file(long)})
	p := added(t, s, x, "p")
	optimises(t, s, 2)
	holds(t, s, model{}.with(info(p, x), x))
	names(t, f, dataName(p, "d"), dataName(p, "b"), 2)
	names(t, f, dataName(p, "e"), dataName(p, "a"), 2)
	names(t, f, dataName(p, "f"), dataName(p, "f"), 1)
}

// P13.6: names rise byte by byte, whichever path is the greater one, and whatever stands in a tree's order.
func TestOptimiseFirst(t *testing.T) {
	f, s := empty(t)
	short, long := told("a"), told("a")+"-b"
	x := dir(entry{"a", dir(entry{"b", file("1")})}, entry{"a.c", file("1")})
	infos := []api.Info{info(short, x), info(long, x)}
	ok(t, s.Add(infos, []api.Tree{x, x}))
	// These are linked to names of nobody: which file is the earlier one shows by these.
	for i, name := range f.Names("s/") {
		ok(t, f.Link(name, fmt.Sprint(i)))
	}
	if first := f.Names("s/")[0]; first != dataName(long, "a.c") {
		t.Fatal(first)
	}
	optimises(t, s, 3)
	names(t, f, dataName(long, "a.c"), "0", 5)
	for _, name := range f.Names("s/") {
		names(t, f, name, "0", 5)
	}
	for _, name := range []string{"1", "2", "3"} {
		names(t, f, name, name, 1)
	}
	holds(t, s, model{}.with(infos[0], x).with(infos[1], x))
}

// P13.6: what is one file already is left; the others become it, also where it has names of nobody.
func TestOptimiseOneAlready(t *testing.T) {
	f, s := empty(t)
	x := dir(entry{"a", file("1")}, entry{"b", file("1")}, entry{"c", file("1")}, entry{"d", file("1")})
	p := added(t, s, x, "p")
	ok(t, f.Remove(dataName(p, "c")))
	ok(t, f.Link(dataName(p, "a"), dataName(p, "c")))
	// b and d are one file, but not that one.
	ok(t, f.Remove(dataName(p, "d")))
	ok(t, f.Link(dataName(p, "b"), dataName(p, "d")))
	ok(t, f.Link(dataName(p, "b"), "z"))
	ok(t, f.Link(dataName(p, "a"), "A"))
	optimises(t, s, 2)
	for _, name := range []string{"a", "b", "c", "d"} {
		names(t, f, dataName(p, name), "A", 5)
	}
	names(t, f, "z", "z", 1)
	has(t, s, model{}.with(info(p, x), x))
	optimises(t, s, 0)
}

// P13.6: what has the name `o` goes where something is joined, whatever it is: also the file that is the earlier one.
func TestOptimiseBridge(t *testing.T) {
	for _, there := range []string{"none", "other", "same", "first", "second"} {
		f, s := empty(t)
		x := dir(entry{"a", file("1")}, entry{"b", file("1")}, entry{"c", file("1")})
		p := added(t, s, x, "p")
		switch there {
		case "other":
			put(t, f, "o", "other")
		case "same":
			put(t, f, "o", "1")
		case "first":
			ok(t, f.Link(dataName(p, "a"), "o"))
		case "second":
			ok(t, f.Link(dataName(p, "b"), "o"))
		}
		optimises(t, s, 2)
		if l := f.Names("o"); len(l) != 0 {
			t.Errorf("%s: %q", there, l)
		}
		names(t, f, dataName(p, "c"), dataName(p, "a"), 3)
		holds(t, s, model{}.with(info(p, x), x))
		put(t, f, "o", "1")
		optimises(t, s, 0)
		names(t, f, "o", "o", 1)
	}
}

// P13.6: what is no File of a valid path is neither joined nor an earlier one.
func TestOptimiseOthers(t *testing.T) {
	f, s := empty(t)
	p, q := texted(t, s, "1", "p"), texted(t, s, "2", "q")
	gone := added(t, s, two("1", "2"), "gone")
	ok(t, s.Delete([]api.Path{gone}))
	for _, name := range []string{"a", "s/a", "s/", "t/a", dataName(gone, "a"), dataName(p, "0"), dataName(q, "x"), "s/" + string(p) + "x/", "z"} {
		put(t, f, name, "1")
	}
	before := state(f)
	optimises(t, s, 0)
	if state(f) != before {
		t.Error("the files are others")
	}
}

// P13.6, P13.9: what others changed or took away is what it is then; no Tree is another one behind it.
func TestOptimiseChanged(t *testing.T) {
	f, s := empty(t)
	p, q, r := added(t, s, two("1", "2"), "p"), added(t, s, two("1", "2"), "q"), texted(t, s, "2", "r")
	put(t, f, dataName(p, "a"), "2")
	ok(t, f.Remove(dataName(q, "b")))
	optimises(t, s, 2)
	if x, e := s.Tree(p); e != api.OK || !tree.Same(x, two("2", "2")) {
		t.Error(x, e)
	}
	answers(t, s.Verify(p), api.ErrHash)
	answers(t, s.Verify(q), api.ErrForm)
	answers(t, s.Verify(r), api.OK)
	names(t, f, dataName(q, "a"), dataName(q, "a"), 1)
	put(t, f, dataName(q, "b"), "1")
	optimises(t, s, 1)
	if x, e := s.Tree(q); e != api.OK || !tree.Same(x, two("1", "1")) {
		t.Error(x, e)
	}
	// One that is not there is none without bytes.
	texted(t, s, "", "empty")
	ok(t, f.Remove(dataName(r, "")))
	optimises(t, s, 0)
	if l := f.Names(dataName(r, "")); len(l) != 0 {
		t.Errorf("%q", l)
	}
	// Of a path without a skeleton it is not known which Files it has.
	ok(t, f.Remove(skeletonName(q)))
	put(t, f, dataName(q, "b"), "1")
	optimises(t, s, 0)
}

// P13.6, P13.9: of trees that share files each goes alone; what stays has its own.
func TestOptimiseThenDelete(t *testing.T) {
	for _, back := range []bool{false, true} {
		f, s := empty(t)
		want := model{}
		var l []api.Path
		for i := range 6 {
			x := dir(entry{"a", file("same")}, entry{"b", file(fmt.Sprint(i % 2))})
			p := added(t, s, x, fmt.Sprint(i))
			want, l = want.with(info(p, x), x), append(l, p)
		}
		optimises(t, s, 9)
		for len(l) > 0 {
			p, rest := l[0], l[1:]
			if back {
				p, rest = l[len(l)-1], l[:len(l)-1]
			}
			l = rest
			ok(t, s.Delete([]api.Path{p}))
			want = want.without(p)
			holds(t, s, want)
			f.Crash(0)
			s = opened(t, f)
			holds(t, s, want)
			optimises(t, s, 0)
		}
	}
}

// P13.6: what is added behind an Optimise has files of its own, till the next one.
func TestOptimiseThenAdd(t *testing.T) {
	f, s := empty(t)
	p := added(t, s, two("1", "1"), "p")
	optimises(t, s, 1)
	q := added(t, s, two("1", "2"), "q")
	names(t, f, dataName(q, "a"), dataName(q, "a"), 1)
	ok(t, s.Delete([]api.Path{p}))
	p = added(t, s, two("1", "1"), "p")
	names(t, f, dataName(p, "b"), dataName(p, "b"), 1)
	optimises(t, s, 2)
	holds(t, s, model{}.with(info(p, two("1", "1")), two("1", "1")).with(info(q, two("1", "2")), two("1", "2")))
}

// P13.6: without anything to join, too, all is Synced, and the FS's error tells.
func TestOptimiseSyncs(t *testing.T) {
	f, s := empty(t)
	put(t, f, "x", "")
	optimises(t, s, 0)
	f.Fuse(0)
	n, e := s.Optimise()
	counts(t, n, e, 0, api.ErrDead)
}

// P13.6: where there are as many names as may be, nothing can be linked; all is as it was.
func TestOptimiseNames(t *testing.T) {
	f, s := empty(t)
	p := added(t, s, two("1", "1"), "p")
	fill(t, f, 0)
	n, e := s.Optimise()
	counts(t, n, e, 0, api.ErrFull)
	names(t, f, dataName(p, "b"), dataName(p, "b"), 1)
	answers(t, s.Verify(p), api.OK)
	// What is there under `o` makes room for itself.
	ok(t, f.Remove("fill-0"))
	put(t, f, "o", "")
	optimises(t, s, 1)
	holds(t, s, model{}.with(info(p, two("1", "1")), two("1", "1")))
}

// fill lets a FS have so many names less than may be.
func fill(t *testing.T, f *fs.FS, free int) {
	t.Helper()
	for i := range api.MaxNames - len(f.Names("")) - free {
		put(t, f, fmt.Sprint("fill-", i), "")
	}
	ok(t, f.Sync())
}

// P13.6: thousands of Files, most of them alike.
func TestOptimiseMany(t *testing.T) {
	if testing.Short() {
		t.Skip("it takes seconds")
	}
	f, s := empty(t)
	for i := range 2 {
		added(t, s, many(3000), fmt.Sprint("p", i))
	}
	optimises(t, s, 2*3000-7)
	optimises(t, s, 0)
	sound(t, s)
	first := f.Names("s/")[0]
	names(t, f, first, first, 2*429)
}
