package store_test

import (
	"fmt"
	"maps"
	"math/rand/v2"
	"slices"
	"strings"
	"testing"

	"pantry/api"
	"pantry/fs"
	"pantry/path"
	"pantry/store"
	"pantry/tree"
)

// tale is a store to which things happen at random, and the model of it.
type tale struct {
	*testing.T
	*rand.Rand
	f    *fs.FS
	s    *store.Store
	has  model
	done map[string]int // how often what was answered
}

// P13.1 to P13.9: whatever is called in whatever order, with fuses, crashes and a FS that is full at times, the store
// does what the plain model does.
func TestTale(t *testing.T) {
	done := map[string]int{}
	for n := range rounds(40) {
		f := disk(t, 1<<14<<(n%3))
		x := tale{t, rand.New(rand.NewPCG(uint64(n), 13)), f, opened(t, f), model{}, done}
		for range 120 {
			x.step()
			if t.Failed() {
				t.Fatal(n)
			}
		}
	}
	if testing.Short() {
		return
	}
	for _, name := range []string{"AddTree", "AddText", "Add", "Delete", "Optimise", "Clean"} {
		for _, e := range []api.Errno{api.OK, api.ErrDead} {
			if done[fmt.Sprint(name, int(e))] == 0 {
				t.Errorf("%s never answered %v: %v", name, e, done)
			}
		}
	}
}

// step lets one thing happen.
func (x *tale) step() {
	if x.IntN(6) == 0 {
		x.f.Fuse(x.IntN(14))
	}
	switch x.IntN(10) {
	case 0, 1:
		x.addTree()
	case 2:
		x.addText()
	case 3, 4:
		x.add()
	case 5, 6:
		x.delete()
	case 7:
		x.optimise()
	case 8:
		x.clean()
	case 9:
		x.crash()
	}
	x.f.Fuse(-1)
	x.litter()
	has(x.T, x.s, x.has)
	sound(x.T, x.s)
	lists(x.T, x.s.Stray(), x.stray()...)
}

// met is what an answer lets be, where no other one than an error of the FS may come in the place of want.
func (x *tale) met(name string, e, want api.Errno, after model) {
	x.Helper()
	x.done[fmt.Sprint(name, int(e))]++
	switch {
	case e == want:
		if e == api.OK {
			x.has = after
		}
	case want == api.OK && e == api.ErrFull:
	case want == api.OK && e == api.ErrDead:
		isDead(x.T, x.s, told("p"))
		x.f.Crash(x.IntN(x.f.Pending() + 2))
		x.s = opened(x.T, x.f)
		if slices.Equal(x.s.DB().All(), after.all()) {
			x.has = after
		}
	default:
		x.Errorf("%s: %v, want %v", name, e, want)
	}
}

// crash lets all be forgotten that does not last, and opens the store anew.
func (x *tale) crash() {
	x.f.Crash(x.IntN(x.f.Pending() + 2))
	x.s = opened(x.T, x.f)
}

// litter writes names of nobody at times.
func (x *tale) litter() {
	names := []string{"o", "s/x", "t/x", "s/" + string(x.path()), "s/" + string(x.path()) + "x/a", "t/" + string(x.path()) + "x", "q"}
	if x.IntN(8) == 0 {
		x.f.Write(names[x.IntN(len(names))], []byte(x.text()))
	}
}

// stray is what Stray is to tell.
func (x *tale) stray() []string {
	return slices.DeleteFunc(x.f.Names(""), func(name string) bool {
		if !strings.HasPrefix(name, "s/") && !strings.HasPrefix(name, "t/") {
			return true
		}
		for p := range x.has {
			if name == skeletonName(p) || strings.HasPrefix(name, dataName(p, "")) {
				return true
			}
		}
		return false
	})
}

// text is one of a few.
func (x *tale) text() string { return strings.Repeat(fmt.Sprint(x.IntN(4)), x.IntN(3)*x.IntN(300)) }

func (x *tale) name() string {
	if x.IntN(20) == 0 {
		return []string{"", ".a", "a/b"}[x.IntN(3)]
	}
	return []string{"a", "b", "a-b"}[x.IntN(3)]
}

// path is a valid one, if there is one, or one that was told, or none.
func (x *tale) path() api.Path {
	if all := x.has.all(); len(all) > 0 && x.IntN(10) > 0 {
		return all[x.IntN(len(all))]
	}
	if x.IntN(10) == 0 {
		return "no"
	}
	return told(x.name0())
}

func (x *tale) name0() string { return fmt.Sprint("p", x.IntN(6)) }

// paths is some, which may stand there more than once.
func (x *tale) paths() []api.Path {
	var l []api.Path
	for range max(0, x.IntN(5)-1) {
		l = append(l, x.path())
	}
	return l
}

// tree is a small one, of any kind, that seldom is none.
func (x *tale) tree(deep int) api.Tree {
	switch n := x.IntN(20); {
	case n == 0 && x.IntN(10) == 0:
		return api.Tree{Kind: x.IntN(5), Exec: true}
	case n < 3:
		return link("to" + x.text())
	case n < 10 && deep > 0:
		t := dir()
		for range x.IntN(5) {
			if u, e := tree.Put(t, []string{"a", "b", "c", "a.b"}[x.IntN(4)], x.tree(deep-1)); e == api.OK {
				t = u
			}
		}
		return t
	case n == 10 && x.IntN(10) == 0:
		return placed(maxPlace + x.IntN(2))
	}
	return api.Tree{Kind: api.File, Exec: x.IntN(3) == 0, Data: []byte(x.text())}
}

// treeError is what Check, and the limits of how a tree lies, say of it.
func treeError(t api.Tree) api.Errno {
	if e := tree.Check(t); e != api.OK {
		return e
	}
	for _, place := range tree.Files(t) {
		if len(place) > maxPlace {
			return api.ErrLong
		}
	}
	return api.OK
}

// refsError is that of refs which are to be valid.
func (m model) refsError(refs []api.Path) api.Errno {
	for _, p := range refs {
		if _, valid := m[p]; !valid {
			return api.ErrRef
		}
	}
	return api.OK
}

// orMade is a model with one path more, if that is not there.
func (m model) orMade(x api.Info, t api.Tree) model {
	if _, valid := m[x.Path]; valid {
		return m
	}
	return m.with(x, t)
}

func (x *tale) addTree() {
	y, name, refs := x.tree(3), x.name(), x.paths()
	want, after, path1 := treeError(y), x.has, api.Path("")
	if want == api.OK {
		p, e := path.Source(info("", y).Hash, refs, name)
		if want = e; e == api.OK {
			want, path1 = x.has.refsError(refs), p
			after = x.has.orMade(info(p, y, refs...), y)
		}
	}
	p, e := x.s.AddTree(y, name, refs)
	x.names(p, e, path1)
	x.met("AddTree", e, want, after)
}

// names asks for the path that an add answers.
func (x *tale) names(p api.Path, e api.Errno, want api.Path) {
	x.Helper()
	if e != api.OK {
		want = ""
	}
	if p != want {
		x.Errorf("%q, want %q", p, want)
	}
}

func (x *tale) addText() {
	text, name, refs := x.text(), x.name(), x.paths()
	want, after, path1 := api.ErrName, x.has, api.Path("")
	if path.IsName(name) {
		want = x.has.refsError(refs)
		if slices.Contains(refs, "no") {
			want = api.ErrForm
		}
	}
	if want == api.OK {
		path1 = textOf(x.T, text, name, refs...)
		after = x.has.orMade(info(path1, file(text), refs...), file(text))
	}
	p, e := x.s.AddText([]byte(text), name, refs)
	x.names(p, e, path1)
	x.met("AddText", e, want, after)
}

func (x *tale) add() {
	var infos []api.Info
	var trees []api.Tree
	for range x.IntN(5) {
		y := x.tree(2)
		i := info(told(x.name0()), y)
		if x.IntN(4) == 0 {
			i.Path = x.path()
			if z, valid := x.has[i.Path]; valid {
				y = z.tree
				i = info(i.Path, y)
			}
		}
		for range x.IntN(3) {
			i.Refs = append(i.Refs, [2]api.Path{x.path(), told(x.name0())}[x.IntN(2)])
		}
		for range x.IntN(3) {
			i.Sigs = append(i.Sigs, fmt.Sprint("s", x.IntN(5)))
		}
		if x.IntN(20) == 0 {
			i.Size += x.IntN(3) - 1
		}
		if x.IntN(40) == 0 {
			i.Sigs = make([]string, maxSigs+x.IntN(2))
		}
		infos, trees = append(infos, i), append(trees, y)
	}
	want, after := x.has.added(infos, trees)
	x.met("Add", x.s.Add(infos, trees), want, after)
}

// added is what Add answers, and what is there then.
func (m model) added(l []api.Info, trees []api.Tree) (api.Errno, model) {
	for _, t := range trees {
		if e := treeError(t); e != api.OK {
			return e, m
		}
	}
	for i, t := range trees {
		if x := info("", t); x.Hash != l[i].Hash || x.Size != l[i].Size {
			return api.ErrHash, m
		}
	}
	if e := m.refused(l); e != api.OK {
		return e, m
	}
	after := m
	for i, x := range l {
		after = after.orMade(x, trees[i])
	}
	return api.OK, after
}

// refused is what Register refuses.
func (m model) refused(l []api.Info) api.Errno {
	refs := map[api.Path][]api.Path{}
	has := api.OK
	for _, x := range l {
		_, twice := refs[x.Path]
		switch {
		case x.Path == "no" || slices.Contains(x.Refs, "no"):
			return api.ErrForm
		case twice:
			return api.ErrArg
		case len(x.Sigs) > maxSigs:
			return api.ErrLong
		}
		refs[x.Path] = x.Refs
		if y, valid := m[x.Path]; valid && y.Hash != x.Hash {
			has = api.ErrHas
		}
	}
	if has != api.OK {
		return has
	}
	maps.DeleteFunc(refs, func(p api.Path, _ []api.Path) bool {
		_, valid := m[p]
		return valid
	})
	for _, l := range refs {
		for _, ref := range l {
			if _, is := refs[ref]; !is && m.refsError([]api.Path{ref}) != api.OK {
				return api.ErrRef
			}
		}
	}
	for n := -1; n != len(refs); {
		n = len(refs)
		maps.DeleteFunc(refs, func(p api.Path, l []api.Path) bool {
			return !slices.ContainsFunc(l, func(ref api.Path) bool {
				_, is := refs[ref]
				return is && ref != p
			})
		})
	}
	if len(refs) > 0 {
		return api.ErrLoop
	}
	return api.OK
}

func (x *tale) delete() {
	l := x.paths()
	if x.IntN(8) == 0 {
		l = append(x.has.all(), l...)
	}
	want := api.OK
	for p, y := range x.has {
		if !slices.Contains(l, p) && slices.ContainsFunc(y.Refs, func(ref api.Path) bool { return slices.Contains(l, ref) }) {
			want = api.ErrUsed
		}
	}
	if x.has.refsError(l) != api.OK {
		want = api.ErrNone
	}
	x.met("Delete", x.s.Delete(l), want, x.has.without(l...))
}

func (x *tale) optimise() {
	var all []string
	for p, y := range x.has {
		for _, place := range tree.Files(y.tree) {
			all = append(all, dataName(p, place))
		}
	}
	want := 0
	firsts := map[string]string{}
	for _, name := range rising(all...) {
		b, e := x.f.Read(name)
		ok(x.T, e)
		first, _ := x.f.Node(name)
		if firsts[string(b)+"."] == "" {
			firsts[string(b)+"."] = first
		}
		if firsts[string(b)+"."] != first {
			want++
		}
	}
	n, e := x.s.Optimise()
	if e != api.OK {
		want = 0
	}
	if n != want {
		x.Errorf("%d files, want %d", n, want)
	}
	x.met("Optimise", e, api.OK, x.has)
}

func (x *tale) clean() {
	want := len(x.stray())
	n, e := x.s.Clean()
	if e != api.OK {
		want = 0
	}
	if n != want {
		x.Errorf("%d names, want %d", n, want)
	}
	x.met("Clean", e, api.OK, x.has)
}
