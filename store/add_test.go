package store_test

import (
	"fmt"
	"slices"
	"strings"
	"testing"

	"pantry/api"
	"pantry/path"
	"pantry/store"
	"pantry/tree"
)

// P13.2: a tree of each kind is there under its path, with refs in any order, once or twice; it lasts.
func TestAddTree(t *testing.T) {
	f, s := empty(t)
	a, b := texted(t, s, "a", "a"), texted(t, s, "b", "b")
	want := model{}.with(info(a, file("a")), file("a")).with(info(b, file("b")), file("b"))
	for _, x := range shapes() {
		for _, refs := range [][]api.Path{nil, {b, a, b, b}} {
			p := added(t, s, x.tree, x.name, refs...)
			want = want.with(info(p, x.tree, refs...), x.tree)
			if f.Pending() != 0 {
				t.Errorf("%s: it does not last", x.name)
			}
		}
	}
	holds(t, s, want)
	f.Crash(0)
	holds(t, opened(t, f), want)
}

// P13.2, the words: a skeleton is the tree without Data, and each File's Data is under its place.
func TestHowItLies(t *testing.T) {
	f, s := empty(t)
	x := dir(entry{"d", dir(entry{"f", exec("1")})}, entry{"d.f", file("2")}, entry{"l", link("d")}, entry{"e", file("")})
	p := added(t, s, x, "p")
	q := texted(t, s, "text", "q")
	r := added(t, s, link("q"), "r")
	u := added(t, s, dir(), "u")
	var names []string
	for _, name := range []string{"d/f", "d.f", "e"} {
		names = append(names, "s/"+string(p)+"/"+name)
	}
	names = append(names, "s/"+string(q)+"/")
	for _, p := range []api.Path{p, q, r, u} {
		names = append(names, "t/"+string(p))
	}
	lists(t, slices.Concat(f.Names("s"), f.Names("t")), rising(names...)...)
	for name, want := range map[string]string{
		dataName(p, "d/f"): "1", dataName(p, "d.f"): "2", dataName(p, "e"): "", dataName(q, ""): "text",
		skeletonName(p): string(skeleton(dir(entry{"d", dir(entry{"f", exec("")})}, entry{"d.f", file("")}, entry{"l", link("d")}, entry{"e", file("")}))),
		skeletonName(q): string(skeleton(file(""))), skeletonName(r): string(skeleton(link("q"))), skeletonName(u): string(skeleton(dir())),
	} {
		if b, e := f.Read(name); e != api.OK || string(b) != want {
			t.Errorf("%q: %q, %v", name, b, e)
		}
	}
}

// P13.2: what has another tree, other refs or another name has another path; what is added once more is there once.
func TestAddTreeAgain(t *testing.T) {
	f, s := empty(t)
	a := texted(t, s, "a", "a")
	paths := []api.Path{a}
	for _, x := range []api.Tree{file("x"), exec("x"), file("y"), dir(entry{"x", file("x")})} {
		for _, name := range []string{"x", "y"} {
			for _, refs := range [][]api.Path{nil, {a}} {
				p := added(t, s, x, name, refs...)
				paths = append(paths, p)
				before := state(f)
				for _, refs := range [][]api.Path{refs, slices.Concat(refs, refs), append([]api.Path{}, refs...)} {
					added(t, s, x, name, refs...)
				}
				if state(f) != before {
					t.Error("the files are others")
				}
			}
		}
	}
	if len(rising(paths...)) != 17 {
		t.Errorf("%q", paths)
	}
	lists(t, s.DB().All(), rising(paths...)...)
}

// P13.2: of a path that is valid nothing is done: nothing is written, though others changed it.
func TestAddValid(t *testing.T) {
	f, s := empty(t)
	x := two("1", "2")
	p, q := added(t, s, x, "p"), texted(t, s, "q", "q")
	put(t, f, dataName(p, "a"), "other")
	put(t, f, dataName(q, ""), "other")
	before, n := state(f), f.Pending()
	added(t, s, x, "p")
	texted(t, s, "q", "q")
	if state(f) != before || f.Pending() != n {
		t.Error("the files are others")
	}
	answers(t, s.Verify(p), api.ErrHash)
	answers(t, s.Verify(q), api.ErrHash)
}

// P13.2: AddTree of what Check refuses, with its error.
func TestAddTreeWrong(t *testing.T) {
	_, s := empty(t)
	for i, x := range wrongs() {
		stays(t, s, func() {
			p, e := s.AddTree(x.tree, "x", nil)
			if answers(t, tree.Check(x.tree), x.e); p != "" || e != x.e {
				t.Error(i, p, e)
			}
		})
	}
	holds(t, s, nil)
}

// P13.2: a File's place has 180 bytes at most; that of a Dir or of a Link may be longer.
func TestPlace(t *testing.T) {
	f, s := empty(t)
	x := placed(maxPlace)
	p := added(t, s, x, strings.Repeat("n", api.MaxName))
	holds(t, s, model{}.with(info(p, x), x))
	if l := f.Names("s/"); len(l) != 1 || len(l[0]) != 2+33+api.MaxName+1+maxPlace {
		t.Errorf("%q", l)
	}
	_, s = empty(t)
	long := strings.Repeat("a", 100) + "/" + strings.Repeat("b", 100)
	for _, x := range []api.Tree{placed(maxPlace + 1), at(long+"/c", exec("")), mustPut(placed(maxPlace+1), "a", file("first")), mustPut(placed(maxPlace+1), "z", file("last"))} {
		stays(t, s, func() {
			p, e := s.AddTree(x, "x", nil)
			refuses(t, p, e, api.ErrLong)
			answers(t, s.Add([]api.Info{info(told("x"), x)}, []api.Tree{x}), api.ErrLong)
		})
	}
	for _, y := range []api.Tree{dir(), link("x")} {
		x := at(long+"/"+long, y)
		p := added(t, s, x, "x")
		has(t, s, model{}.with(info(p, x), x))
		ok(t, s.Delete([]api.Path{p}))
	}
}

func mustPut(t api.Tree, place string, x api.Tree) api.Tree {
	t, e := tree.Put(t, place, x)
	if e != api.OK {
		panic(e)
	}
	return t
}

// P13.2, P13.3: a skeleton has MaxFile bytes at most; what the Files have does not count.
func TestSkeletonLong(t *testing.T) {
	_, s := empty(t)
	x := bony(api.MaxFile)
	x.Kids[0].Data = []byte(strings.Repeat("x", api.MaxFile))
	if n := len(skeleton(x)); n != api.MaxFile {
		t.Fatal(n)
	}
	p := added(t, s, x, "x")
	has(t, s, model{}.with(info(p, x), x))
	x = bony(api.MaxFile + 8)
	if n := len(skeleton(x)); n != api.MaxFile+8 {
		t.Fatal(n)
	}
	stays(t, s, func() {
		p, e := s.AddTree(x, "y", nil)
		refuses(t, p, e, api.ErrLong)
		answers(t, s.Add([]api.Info{info(told("y"), x)}, []api.Tree{x}), api.ErrLong)
	})
}

// P13.2: names that are none.
func TestAddName(t *testing.T) {
	_, s := empty(t)
	long := strings.Repeat("n", api.MaxName)
	for _, name := range []string{"", ".", ".a", "a/b", "a b", "\x00", "é", long + "n", strings.Repeat("n", 1<<16)} {
		stays(t, s, func() {
			p, e := s.AddTree(file("x"), name, nil)
			refuses(t, p, e, api.ErrName)
			p, e = s.AddText([]byte("x"), name, nil)
			refuses(t, p, e, api.ErrName)
		})
	}
	added(t, s, file("x"), long)
	texted(t, s, "x", long)
}

// P13.2: refs that are no paths, too many, or not valid: one of them among others, or that what is added itself is to be.
func TestAddRefs(t *testing.T) {
	_, s := empty(t)
	a := texted(t, s, "a", "a")
	many := slices.Repeat([]api.Path{a}, api.MaxRefs)
	for _, x := range []struct {
		refs []api.Path
		e    api.Errno
	}{
		{[]api.Path{""}, api.ErrForm},
		{[]api.Path{a, "no"}, api.ErrForm},
		{[]api.Path{told("no"), a + "/"}, api.ErrForm},
		{append(many, a), api.ErrLong},
		{append(many[:api.MaxRefs:api.MaxRefs], "no"), api.ErrForm},
		{[]api.Path{told("no")}, api.ErrRef},
		{[]api.Path{a, told("no"), a}, api.ErrRef},
		{[]api.Path{sourceOf(t, file("x"), "x")}, api.ErrRef},
		{[]api.Path{textOf(t, "x", "x")}, api.ErrRef},
	} {
		stays(t, s, func() {
			p, e := s.AddTree(file("x"), "x", x.refs)
			refuses(t, p, e, x.e)
			p, e = s.AddText([]byte("x"), "x", x.refs)
			refuses(t, p, e, x.e)
		})
	}
	p := added(t, s, file("x"), "x", many...)
	has(t, s, model{}.with(info(a, file("a")), file("a")).with(info(p, file("x"), a), file("x")))
}

// P13.2: as many refs as may be, in any order.
func TestAddManyRefs(t *testing.T) {
	_, s := empty(t)
	var refs []api.Path
	want := model{}
	for i := range rounds(api.MaxRefs) {
		text := fmt.Sprint(i)
		p := texted(t, s, text, text)
		refs = append(refs, p)
		want = want.with(info(p, file(text)), file(text))
	}
	p, q := added(t, s, file("x"), "x", refs...), texted(t, s, "x", "x", refs...)
	slices.Reverse(refs)
	added(t, s, file("x"), "x", refs...)
	texted(t, s, "x", "x", refs...)
	has(t, s, want.with(info(p, file("x"), refs...), file("x")).with(info(q, file("x"), refs...), file("x")))
}

// P13.2: a ref that is not valid errs, though the path is valid, where that was told with other refs.
func TestRefOfValid(t *testing.T) {
	_, s := empty(t)
	no := told("no")
	p, q := sourceOf(t, file("x"), "x", no), textOf(t, "x", "x", no)
	ok(t, s.Add([]api.Info{info(p, file("x")), info(q, file("x"))}, []api.Tree{file("x"), file("x")}))
	r, e := s.AddTree(file("x"), "x", []api.Path{no})
	refuses(t, r, e, api.ErrRef)
	r, e = s.AddText([]byte("x"), "x", []api.Path{no})
	refuses(t, r, e, api.ErrRef)
}

// P13.2: AddText of a text of no byte, of MaxFile bytes, and of one more, and one that is added twice (the chapter's
// example).
func TestAddText(t *testing.T) {
	f, s := empty(t)
	want := model{}
	for _, text := range []string{"", "hi", "hi\n", "\x00\xff", strings.Repeat("x", api.MaxFile)} {
		for _, name := range []string{"a", "b"} {
			p := texted(t, s, text, name)
			want = want.with(info(p, file(text)), file(text))
			before := state(f)
			texted(t, s, text, name)
			if state(f) != before || f.Pending() != 0 {
				t.Error("the files are others")
			}
		}
	}
	holds(t, s, want)
	f.Crash(0)
	s = opened(t, f)
	holds(t, s, want)
	for _, name := range []string{"a", ""} {
		stays(t, s, func() {
			p, e := s.AddText(make([]byte, api.MaxFile+1), name, []api.Path{"no"})
			refuses(t, p, e, api.ErrLong)
		})
	}
	if p := texted(t, s, "hi", "a", want.all()...); p == textOf(t, "hi", "a") {
		t.Error("one path with other refs")
	}
}

// P13.2: which error comes first, where two hold.
func TestAddTreeOrder(t *testing.T) {
	_, s := empty(t)
	a := texted(t, s, "a", "a")
	type call struct {
		tree api.Tree
		name string
		refs []api.Path
	}
	faults := []struct {
		e  api.Errno
		do func(c *call)
	}{
		{api.ErrName, func(c *call) {
			c.tree.Names, c.tree.Kids = append([]string{""}, c.tree.Names...), append([]api.Tree{file("")}, c.tree.Kids...)
		}},
		{api.ErrLong, func(c *call) { c.tree = mustPut(c.tree, placedAt(), file("")) }},
		{api.ErrName, func(c *call) { c.name = "" }},
		{api.ErrForm, func(c *call) { c.refs = append(c.refs, "no") }},
		{api.ErrLong, func(c *call) { c.refs = append(c.refs, slices.Repeat([]api.Path{a}, api.MaxRefs+1)...) }},
		{api.ErrRef, func(c *call) { c.refs = append(c.refs, told("no")) }},
	}
	for i, first := range faults {
		for _, second := range faults[i:] {
			c := call{two("1", "2"), "x", nil}
			second.do(&c)
			first.do(&c)
			stays(t, s, func() {
				p, e := s.AddTree(c.tree, c.name, c.refs)
				refuses(t, p, e, first.e)
				if i > 1 {
					p, e = s.AddText([]byte("x"), c.name, c.refs)
					refuses(t, p, e, first.e)
				}
			})
		}
	}
}

// placedAt is a place that is too long for a File.
func placedAt() string { return strings.Repeat("m", 100) + "/" + strings.Repeat("n", 80) }

// P13.2, P13.3, P13.8: behind all other errors come those of the FS: of each of them nothing is written then.
func TestFSErrsLast(t *testing.T) {
	f, s := empty(t)
	f.Fuse(0)
	p, e := s.AddTree(file("x"), "x", []api.Path{told("no")})
	refuses(t, p, e, api.ErrRef)
	answers(t, s.Add([]api.Info{info(told("p"), file("x"), told("no"))}, []api.Tree{file("x")}), api.ErrRef)
	p, e = s.AddTree(file("x"), "x", nil)
	refuses(t, p, e, api.ErrDead)
}

// P13.3: Add of none, of as many trees as Infos, and of more and fewer.
func TestAddCounts(t *testing.T) {
	f, s := empty(t)
	x, y := info(told("x"), file("x")), info(told("y"), file("y"))
	stays(t, s, func() {
		answers(t, s.Add([]api.Info{x}, nil), api.ErrArg)
		answers(t, s.Add(nil, []api.Tree{file("x")}), api.ErrArg)
		answers(t, s.Add([]api.Info{x, y}, []api.Tree{file("x")}), api.ErrArg)
		answers(t, s.Add([]api.Info{x}, []api.Tree{file("x"), file("y")}), api.ErrArg)
		answers(t, s.Add([]api.Info{{Path: "no"}}, []api.Tree{{}, {}}), api.ErrArg)
		ok(t, s.Add(nil, nil))
		ok(t, s.Add([]api.Info{}, []api.Tree{}))
	})
	ok(t, s.Add([]api.Info{x, y}, []api.Tree{file("x"), file("y")}))
	want := model{}.with(x, file("x")).with(y, file("y"))
	holds(t, s, want)
	f.Crash(0)
	holds(t, opened(t, f), want)
}

// P13.3: what is told of a path is registered: Refs and Sigs in order, each once, and a Deriver.
func TestAddTold(t *testing.T) {
	f, s := empty(t)
	a := texted(t, s, "a", "a")
	want := model{}.with(info(a, file("a")), file("a"))
	for _, x := range shapes() {
		i := info(told(x.name), x.tree, told(x.name), a, told(x.name))
		i.Deriver, i.Sigs = told("deriver"), []string{"s2", "", "s1", "s2"}
		ok(t, s.Add([]api.Info{i}, []api.Tree{x.tree}))
		want = want.with(i, x.tree)
	}
	holds(t, s, want)
	f.Crash(0)
	holds(t, opened(t, f), want)
}

// P13.3: the first tree that errs tells, each wholly ahead of the next one, and ahead of all Infos.
func TestAddFirstTree(t *testing.T) {
	_, s := empty(t)
	good, bad := file("x"), wrongs()
	for i, x := range bad {
		y := bad[(i+1)%len(bad)]
		for _, trees := range [][]api.Tree{{x.tree, good}, {good, x.tree}, {x.tree, y.tree}, {good, x.tree, y.tree, placed(maxPlace + 1)}} {
			infos := make([]api.Info, len(trees))
			stays(t, s, func() { answers(t, s.Add(infos, trees), x.e) })
		}
		stays(t, s, func() {
			answers(t, s.Add(make([]api.Info, 2), []api.Tree{placed(maxPlace + 1), x.tree}), api.ErrLong)
		})
	}
}

// P13.3: ErrHash, if one Hash or Size is another one, ahead of all that Register asks.
func TestAddHash(t *testing.T) {
	_, s := empty(t)
	x := info(told("x"), file("x"))
	hash, size, below, other := x, x, x, x
	hash.Hash[31]++
	size.Size++
	below.Size = -x.Size
	other.Hash, other.Size = info("", two("1", "2")).Hash, info("", two("1", "2")).Size
	for _, wrong := range []api.Info{{}, {Path: x.Path}, {Path: x.Path, Hash: x.Hash}, {Path: x.Path, Size: x.Size}, hash, size, below, other} {
		stays(t, s, func() {
			answers(t, s.Add([]api.Info{wrong}, []api.Tree{file("x")}), api.ErrHash)
			answers(t, s.Add([]api.Info{{Path: "no", Hash: x.Hash, Size: x.Size}, wrong}, []api.Tree{file("x"), file("x")}), api.ErrHash)
			answers(t, s.Add([]api.Info{wrong, x}, []api.Tree{file("x"), {}}), api.ErrForm)
		})
	}
	ok(t, s.Add([]api.Info{x}, []api.Tree{file("x")}))
	// Of one that is valid it is asked, too.
	stays(t, s, func() { answers(t, s.Add([]api.Info{hash}, []api.Tree{file("x")}), api.ErrHash) })
}

// registers is an Info that Register refuses, if there are others behind it in a list.
type registers struct {
	e  api.Errno
	do func(x *api.Info)
}

func refusedInfos() []registers {
	return []registers{
		{api.ErrForm, func(x *api.Info) { x.Path = "no" }},
		{api.ErrForm, func(x *api.Info) { x.Refs = []api.Path{"no"} }},
		{api.ErrForm, func(x *api.Info) { x.Deriver = "no" }},
		{api.ErrLong, func(x *api.Info) { x.Refs = slices.Repeat([]api.Path{x.Path}, api.MaxRefs+1) }},
		{api.ErrLong, func(x *api.Info) { x.Sigs = make([]string, maxSigs+1) }},
		{api.ErrLong, func(x *api.Info) { x.Sigs = []string{"", strings.Repeat("s", maxSig+1)} }},
	}
}

// P13.3: what Register refuses is refused, whether the path is valid or not, and then nothing is added.
func TestAddRegister(t *testing.T) {
	for _, valid := range []bool{false, true} {
		_, s := empty(t)
		x, y := info(told("x"), file("x")), info(told("y"), file("y"))
		trees := []api.Tree{file("y"), file("x"), file("y")}
		if valid {
			ok(t, s.Add([]api.Info{x}, []api.Tree{file("x")}))
		}
		for i, refused := range refusedInfos() {
			wrong := x
			refused.do(&wrong)
			stays(t, s, func() {
				answers(t, s.Add([]api.Info{y, wrong}, trees[:2]), refused.e)
				answers(t, s.Add([]api.Info{wrong, y}, trees[1:]), refused.e)
				// The next Info has other errors, and is asked later.
				answers(t, s.Add([]api.Info{wrong, {Hash: y.Hash, Size: y.Size}}, trees[1:]), refused.e)
			})
			if t.Failed() {
				t.Fatal(valid, i)
			}
		}
		stays(t, s, func() {
			answers(t, s.Add([]api.Info{x, y, x}, []api.Tree{file("x"), file("y"), file("x")}), api.ErrArg)
			answers(t, s.Add([]api.Info{y, x, y}, trees), api.ErrArg)
			other := info(x.Path, file("other"))
			want := api.OK
			if valid {
				want = api.ErrHas
			}
			lost := info(told("lost"), file("y"), told("no"))
			if valid {
				answers(t, s.Add([]api.Info{lost, other}, []api.Tree{file("y"), file("other")}), want)
			}
			answers(t, s.Add([]api.Info{x, lost}, trees[1:]), api.ErrRef)
		})
	}
}

// P13.3: what is valid is left out: neither its files nor what is registered of it are others, whatever is told anew.
func TestAddValidLeftOut(t *testing.T) {
	f, s := empty(t)
	x, y := info(told("x"), file("x")), info(told("y"), two("1", "2"))
	x.Sigs = []string{"s"}
	ok(t, s.Add([]api.Info{x}, []api.Tree{file("x")}))
	want := model{}.with(x, file("x")).with(y, two("1", "2"))
	more := x
	more.Sigs, more.Deriver, more.Refs = []string{"a", "z"}, told("d"), []api.Path{y.Path}
	wrote := store.Written(s)
	ok(t, s.Add([]api.Info{more, y}, []api.Tree{file("x"), two("1", "2")}))
	if n := store.Written(s) - wrote; n != 3 {
		t.Errorf("%d files", n)
	}
	holds(t, s, want)
	put(t, f, dataName(x.Path, ""), "other")
	ok(t, s.Add([]api.Info{y, more}, []api.Tree{two("1", "2"), file("x")}))
	if b, e := f.Read(dataName(x.Path, "")); e != api.OK || string(b) != "other" {
		t.Errorf("%q, %v", b, e)
	}
	// It does not refer to what is not valid: that it is told to does not count.
	more.Refs = []api.Path{told("no")}
	ok(t, s.Add([]api.Info{more}, []api.Tree{file("x")}))
	// As many signatures as may be, as long as may be.
	more.Sigs = []string{strings.Repeat("l", maxSig)}
	ok(t, s.Add([]api.Info{more}, []api.Tree{file("x")}))
	more.Sigs = nil
	for i := range maxSigs {
		more.Sigs = append(more.Sigs, fmt.Sprint("s", i))
	}
	ok(t, s.Add([]api.Info{more}, []api.Tree{file("x")}))
	put(t, f, dataName(x.Path, ""), "x")
	holds(t, s, want)
}

// P13.3: paths may refer to one another in any order, and to themselves, and to valid ones, but not in rings.
func TestAddTogether(t *testing.T) {
	a, b, c := told("a"), told("b"), told("c")
	trees := map[api.Path]api.Tree{a: file("a"), b: two("b", "b"), c: link("c")}
	refs := map[api.Path][]api.Path{a: {a}, b: {a, b}, c: {b, a, c}}
	for _, order := range [][]api.Path{{a, b, c}, {a, c, b}, {b, a, c}, {b, c, a}, {c, a, b}, {c, b, a}} {
		for _, ahead := range []bool{false, true} {
			f, s := empty(t)
			if ahead {
				ok(t, s.Add([]api.Info{info(a, trees[a], a)}, []api.Tree{trees[a]}))
			}
			var infos []api.Info
			var l []api.Tree
			want := model{}
			for _, p := range order {
				infos, l = append(infos, info(p, trees[p], refs[p]...)), append(l, trees[p])
				want = want.with(infos[len(infos)-1], trees[p])
			}
			ok(t, s.Add(infos, l))
			holds(t, s, want)
			f.Crash(0)
			holds(t, opened(t, f), want)
		}
	}
}

// P13.3: rings of two and more are refused, also beside others, but not where one of them is valid already.
func TestAddRings(t *testing.T) {
	_, s := empty(t)
	a, b, c := told("a"), told("b"), told("c")
	x := []api.Tree{file("x"), file("x"), file("x")}
	stays(t, s, func() {
		answers(t, s.Add([]api.Info{info(a, x[0], b), info(b, x[0], a)}, x[:2]), api.ErrLoop)
		answers(t, s.Add([]api.Info{info(a, x[0], b), info(b, x[0], c), info(c, x[0], a)}, x), api.ErrLoop)
		answers(t, s.Add([]api.Info{info(c, x[0]), info(a, x[0], b), info(b, x[0], a)}, x), api.ErrLoop)
		answers(t, s.Add([]api.Info{info(a, x[0], b), info(b, x[0], a, told("no"))}, x[:2]), api.ErrRef)
	})
	ok(t, s.Add([]api.Info{info(a, x[0])}, x[:1]))
	ok(t, s.Add([]api.Info{info(a, x[0], b), info(b, x[0], a)}, x[:2]))
	holds(t, s, model{}.with(info(a, x[0]), x[0]).with(info(b, x[0], a), x[0]))
}

// P13.3: a path that is refused leaves what others changed in the DB, and did not commit yet.
func TestRefusedDropsNothing(t *testing.T) {
	_, s := empty(t)
	p, q := told("p"), told("q")
	told := api.Realised{Drv: p, Out: "out", Path: q}
	ok(t, s.DB().Realise(told))
	_, e := s.AddTree(file("x"), "", nil)
	answers(t, e, api.ErrName)
	answers(t, s.Add([]api.Info{info("no", file("x"))}, []api.Tree{file("x")}), api.ErrForm)
	answers(t, s.Delete([]api.Path{p}), api.ErrNone)
	ok(t, s.Add([]api.Info{info(p, file("x"))}, []api.Tree{file("x")}))
	ok(t, s.Add([]api.Info{info(p, file("x"))}, []api.Tree{file("x")}))
	texted(t, s, "y", "y", p)
	ok(t, s.DB().Realise(api.Realised{Drv: q, Out: "out", Path: p}))
	answers(t, s.Delete([]api.Path{p}), api.ErrUsed)
	answers(t, s.Add([]api.Info{info(p, file("y"))}, []api.Tree{file("y")}), api.ErrHas)
	for _, r := range [][2]api.Path{{p, q}, {q, p}} {
		if out, e := s.DB().Realised(r[0], "out"); e != api.OK || out != r[1] {
			t.Error(out, e)
		}
	}
}

// P13.9: a path that was added is the name of what it has.
func TestNamesWhatItHas(t *testing.T) {
	_, s := empty(t)
	a := texted(t, s, "a", "a")
	for _, x := range shapes() {
		p := added(t, s, x.tree, x.name, a)
		y, e := s.Tree(p)
		ok(t, e)
		i, e := s.DB().Get(p)
		ok(t, e)
		_, name, e := path.Split(p)
		ok(t, e)
		if q, e := s.AddTree(y, name, i.Refs); e != api.OK || q != p {
			t.Errorf("%s: %s, %v", p, q, e)
		}
	}
	if n := len(s.DB().All()); n != len(shapes())+1 {
		t.Error(n)
	}
}

// batch is what Add is handed.
type batch struct {
	infos []api.Info
	trees []api.Tree
}

func (b *batch) add(x api.Info, t api.Tree) {
	b.infos, b.trees = append(b.infos, x), append(b.trees, t)
}

// P13.3: which error comes first, where two hold, whichever stands first in the list.
func TestAddOrder(t *testing.T) {
	f, s := empty(t)
	v, w, x := told("v"), told("w"), file("x")
	ok(t, s.Add([]api.Info{info(v, file("v")), info(w, file("w"))}, []api.Tree{file("v"), file("w")}))
	faults := []struct {
		rank int
		e    api.Errno
		do   func(b *batch)
	}{
		{0, api.ErrArg, func(b *batch) { b.infos = append(b.infos, api.Info{}) }},
		{1, api.ErrForm, func(b *batch) { b.add(api.Info{}, api.Tree{}) }},
		{1, api.ErrName, func(b *batch) { b.add(api.Info{}, dir(entry{"", x})) }},
		{1, api.ErrLong, func(b *batch) { b.add(api.Info{}, placed(maxPlace+1)) }},
		{2, api.ErrHash, func(b *batch) { b.add(info(told("hash"), file("y")), x) }},
		{3, api.ErrForm, func(b *batch) { b.add(info("no", x), x) }},
		{3, api.ErrArg, func(b *batch) { b.add(info(told("twice"), x), x); b.add(info(told("twice"), x), x) }},
		{3, api.ErrLong, func(b *batch) {
			i := info(told("long"), x)
			i.Sigs = make([]string, maxSigs+1)
			b.add(i, x)
		}},
		{3, api.ErrLong, func(b *batch) {
			i := info(v, file("v"))
			i.Sigs = []string{strings.Repeat("s", maxSig+1)}
			b.add(i, file("v"))
		}},
		{4, api.ErrHas, func(b *batch) { b.add(info(w, x), x) }},
		{5, api.ErrRef, func(b *batch) { b.add(info(told("ref"), x, told("no")), x) }},
		{6, api.ErrLoop, func(b *batch) {
			b.add(info(told("ring-a"), x, told("ring-b")), x)
			b.add(info(told("ring-b"), x, told("ring-a")), x)
		}},
		{7, api.ErrDead, func(*batch) {}},
	}
	for _, first := range faults[:len(faults)-1] {
		for _, second := range faults {
			if second.rank <= first.rank {
				continue
			}
			for _, swap := range []bool{false, true} {
				var b batch
				b.add(info(told("good"), x), x)
				if swap {
					second.do(&b)
					first.do(&b)
				} else {
					first.do(&b)
					second.do(&b)
				}
				stays(t, s, func() {
					if second.e == api.ErrDead {
						f.Fuse(0)
					}
					if e := s.Add(b.infos, b.trees); e != first.e {
						t.Errorf("%v ahead of %v: %v", first.e, second.e, e)
					}
				})
			}
		}
	}
	holds(t, s, model{}.with(info(v, file("v")), file("v")).with(info(w, file("w")), file("w")))
}
