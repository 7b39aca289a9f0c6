package store_test

import (
	"reflect"
	"slices"
	"strings"
	"testing"

	"pantry/api"
	"pantry/store"
	"pantry/tree"
)

// lent is arguments whose memory may be changed behind a store, with what changes it.
type lent struct{ spoils []func() }

func (l *lent) bytes(s string) []byte {
	b := append(make([]byte, 0, len(s)+8), s...)
	l.spoils = append(l.spoils, func() { fillWith(b[:cap(b)]) })
	return b
}

func (l *lent) text(s string) string {
	text, b := borrowed(s)
	l.spoils = append(l.spoils, func() { fillWith(b) })
	return text
}

func (l *lent) paths(paths ...api.Path) []api.Path {
	out := make([]api.Path, 0, len(paths)+4)
	for _, p := range paths {
		out = append(out, api.Path(l.text(string(p))))
	}
	l.spoils = append(l.spoils, func() {
		for i := range out[:cap(out)] {
			out[:cap(out)][i] = "spoiled"
		}
	})
	return out
}

func (l *lent) texts(texts ...string) []string {
	out := make([]string, 0, len(texts)+4)
	for _, s := range texts {
		out = append(out, l.text(s))
	}
	l.spoils = append(l.spoils, func() {
		for i := range out[:cap(out)] {
			out[:cap(out)][i] = "spoiled"
		}
	})
	return out
}

func (l *lent) tree(t api.Tree) api.Tree {
	out := api.Tree{Kind: t.Kind, Exec: t.Exec, Data: l.bytes(string(t.Data)), Names: l.texts(t.Names...)}
	for _, kid := range t.Kids {
		out.Kids = append(out.Kids, l.tree(kid))
	}
	l.spoils = append(l.spoils, func() { clear(out.Kids) })
	return out
}

func (l *lent) info(x api.Info) api.Info {
	x.Path, x.Deriver = api.Path(l.text(string(x.Path))), api.Path(l.text(string(x.Deriver)))
	x.Refs, x.Sigs = l.paths(x.Refs...), l.texts(x.Sigs...)
	return x
}

// spoil changes all that was lent.
func (l *lent) spoil() {
	for _, do := range l.spoils {
		do()
	}
	l.spoils = nil
}

func fillWith(b []byte) {
	for i := range b {
		b[i] = 'X'
	}
}

// P13.10: what is handed in is not changed, not even behind the ends of lists.
func TestHandedInStays(t *testing.T) {
	_, s := empty(t)
	a, b := texted(t, s, "a", "a"), texted(t, s, "b", "b")
	spare := func(l []api.Path) []api.Path {
		l = append(slices.Clip(l), "spare", "spare")
		return l[:len(l)-2]
	}
	x := dir(entry{"a", file("1")}, entry{"b", dir(entry{"c", exec("2")})}, entry{"l", link("a")})
	refs := spare([]api.Path{b, a, b})
	text := append(make([]byte, 0, 8), "textmore"...)[:4]
	i := info(told("p"), x, spare([]api.Path{b, a, told("p"), a})...)
	i.Sigs = append(make([]string, 0, 4), "z", "a", "z", "spare")[:3]
	infos := append([]api.Info{i, info(a, file("a")), {Path: "spare"}}[:2:3], nil...)
	trees := []api.Tree{x, file("a"), {Kind: 9}}[:2:3]
	gone := spare([]api.Path{told("p"), b, told("p")})
	before := func() []any {
		return []any{clone(x), slices.Clone(refs[:cap(refs)]), string(text[:8]), slices.Clone(infos[:2]), slices.Clone(infos[0].Refs[:cap(infos[0].Refs)]), slices.Clone(infos[0].Sigs[:4]), clone(trees[0]), trees[:3][2].Kind, slices.Clone(gone[:cap(gone)])}
	}
	want := before()
	for range 2 {
		_, e := s.AddTree(x, "x", refs)
		ok(t, e)
		_, e = s.AddText(text, "x", refs)
		ok(t, e)
		ok(t, s.Add(infos, trees))
		answers(t, s.Delete(gone), api.ErrUsed)
		if !reflect.DeepEqual(before(), want) {
			t.Errorf("%v, not %v", before(), want)
		}
	}
	ok(t, s.Delete(slices.DeleteFunc(s.DB().All(), func(p api.Path) bool { return p == b || p == told("p") || p == a })))
	ok(t, s.Delete(gone))
	if !reflect.DeepEqual(before(), want) {
		t.Errorf("%v, not %v", before(), want)
	}
}

// clone is a tree in other memory.
func clone(t api.Tree) api.Tree {
	t.Data, t.Names, t.Kids = slices.Clone(t.Data), slices.Clone(t.Names), slices.Clone(t.Kids)
	for i := range t.Kids {
		t.Kids[i] = clone(t.Kids[i])
	}
	return t
}

// P13.10: what is handed in is not kept: whatever is done to it behind the call, the store is the same.
func TestHandedInIsNotKept(t *testing.T) {
	f, s := empty(t)
	a, b := texted(t, s, "a", "a"), texted(t, s, "b", "b")
	want := model{}.with(info(a, file("a")), file("a")).with(info(b, file("b")), file("b"))
	x := dir(entry{"a", file("1")}, entry{"b", dir(entry{"c", exec("2")})}, entry{"l", link("a")})
	var l lent
	p, e := s.AddTree(l.tree(x), l.text("x"), l.paths(b, a))
	ok(t, e)
	want = want.with(info(sourceOf(t, x, "x", a, b), x, a, b), x)
	q, e := s.AddText(l.bytes("text"), l.text("x"), l.paths(b, a, b))
	ok(t, e)
	want = want.with(info(textOf(t, "text", "x", a, b), file("text"), a, b), file("text"))
	i := info(told("p"), x, b, a)
	i.Sigs, i.Deriver = []string{"s2", "s1"}, told("d")
	ok(t, s.Add([]api.Info{l.info(i)}, []api.Tree{l.tree(x)}))
	want = want.with(i, x)
	l.spoil()
	holds(t, s, want)
	if p != sourceOf(t, x, "x", a, b) || q != textOf(t, "text", "x", a, b) {
		t.Error(p, q)
	}
	ok(t, s.Delete(l.paths(p)))
	l.spoil()
	n, e := s.Optimise()
	counts(t, n, e, 0, api.OK)
	holds(t, s, want.without(p))
	f.Crash(0)
	holds(t, opened(t, f), want.without(p))
}

// P13.10: what is answered shares nothing with what is handed in, with another answer, nor with what the store keeps.
func TestAnswersAreNew(t *testing.T) {
	f, s := empty(t)
	name := strings.Repeat("n", 40)
	a := texted(t, s, "a", "a")
	refs := []api.Path{a}
	var all []span
	for range 3 {
		p, e := s.AddTree(two("1", "2"), name, refs)
		ok(t, e)
		q, e := s.AddText([]byte("x"), name, refs)
		ok(t, e)
		all = append(all, spanOfText(p), spanOfText(q))
		if p == "" || q == "" {
			t.Fatal(p, q)
		}
	}
	if meet(append(all, append(spansOfTexts(refs), spanOfText(name))...)) {
		t.Error("paths share memory")
	}
	put(t, f, "s/stray", "")
	put(t, f, "t/stray", "")
	// A text of one byte is in memory that the language has for all of them.
	x := dir(entry{"aa", file("1")}, entry{"bb", dir(entry{"cc", exec("2")}, entry{"dd", dir()})}, entry{"ll", link("a")}, entry{"mm", link("a")})
	p := added(t, s, x, "x")
	all = spansOfTree(x)
	for range 3 {
		y, e := s.Tree(p)
		ok(t, e)
		all = append(all, spansOfTree(y)...)
		all = append(all, spansOfTexts(s.Stray())...)
	}
	if meet(all) {
		t.Error("answers share memory")
	}
}

// P13.10: what is done to what was answered changes nothing; and what is done to the store changes no answer.
func TestAnswersAreNotKept(t *testing.T) {
	f, s := empty(t)
	x := dir(entry{"aa", file("1")}, entry{"bb", dir(entry{"cc", exec("2")})}, entry{"ll", link("a")})
	p := added(t, s, x, "x")
	q, e := s.AddText([]byte("x"), "x", nil)
	ok(t, e)
	want := model{}.with(info(p, x), x).with(info(textOf(t, "x", "x"), file("x")), file("x"))
	put(t, f, "s/stray", "")
	stray := s.Stray()
	y, e := s.Tree(p)
	ok(t, e)
	z, e := s.Tree(p)
	ok(t, e)
	spoilTree(&y)
	ok(t, f.Write(dataName(p, "aa"), []byte("other")))
	if !tree.Same(z, x) {
		t.Errorf("%v", z)
	}
	put(t, f, dataName(p, "aa"), "1")
	stray[0] = "t/" + string(p)
	lists(t, s.Stray(), "s/stray")
	cleans(t, s, 1)
	spoilText(string(q))
	ok(t, s.Delete([]api.Path{textOf(t, "x", "x")}))
	texted(t, s, "x", "x")
	if n := store.Sums(s); n != 1 {
		t.Errorf("%d digests", n)
	}
	holds(t, s, want)
}

// spoilTree changes all that a tree has.
func spoilTree(t *api.Tree) {
	fillWith(t.Data[:cap(t.Data)])
	for i := range t.Kids {
		spoilTree(&t.Kids[i])
		spoilText(t.Names[i])
		t.Names[i] = "spoiled"
	}
	clear(t.Kids)
}
