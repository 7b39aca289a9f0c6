package fs_test

import (
	"fmt"
	"math/rand/v2"
	"slices"
	"strings"
	"testing"

	"pantry/api"
	"pantry/fs"
)

// P7.5: names that begin so, by the order of their bytes.
func TestNamesByPrefix(t *testing.T) {
	f := made(t, 10)
	all := []string{"\x00", "A", "a", "a\x00", "a/", "a/b", "a/bc", "aa", "b", "b\xff", "b\xff\xff", "c", "é", "\xff", strings.Repeat("n", 300)}
	for _, i := range dice().Perm(len(all)) {
		run(t, f, write(all[i], ""))
	}
	slices.Sort(all)
	prefixes := append([]string{"", "a", "a/", "a/b", "a/bcd", "b", "b\xff", "x", "\xc3", strings.Repeat("n", 299), strings.Repeat("n", 301), strings.Repeat("a", 1<<20)}, all...)
	for _, prefix := range prefixes {
		want := slices.DeleteFunc(slices.Clone(all), func(s string) bool { return !strings.HasPrefix(s, prefix) })
		if got := f.Names(prefix); !slices.Equal(got, want) {
			t.Errorf("Names(%.20q): %.200q, want %.200q", prefix, got, want)
		}
	}
}

// P7.5: the least name of a file, whatever came first, and whatever went.
func TestNode(t *testing.T) {
	f := made(t, 10)
	node := func(name, first string, n int) {
		t.Helper()
		if got, m := f.Node(name); got != first || m != n {
			t.Errorf("Node(%q): %q, %d, want %q, %d", name, got, m, first, n)
		}
	}
	run(t, f, write("m", "x"), write("0", "x"), link("m", "z"))
	node("m", "m", 2)
	node("z", "m", 2)
	node("0", "0", 1)
	run(t, f, link("z", "b"), link("m", "a"))
	for _, name := range []string{"a", "b", "m", "z"} {
		node(name, "a", 4)
	}
	run(t, f, remove("a"))
	node("z", "b", 3)
	run(t, f, rename("b", "y"))
	node("z", "m", 3)
	run(t, f, rename("z", "m"))
	node("y", "m", 2)
	node("m", "m", 2)
	node("z", "", 0)
	node("a", "", 0)
	node("", "", 0)
	run(t, f, write("m", ""))
	node("y", "y", 1)
	node("m", "m", 1)
}

// P7.5: nothing done to one of two is seen in the other, with what is pending.
func TestCopies(t *testing.T) {
	f := made(t, 20)
	run(t, f, write("a", "one"), link("a", "b"), syncs(), appends("a", "!"), write("c", "two"), remove("b"))
	g := f.Copy()
	was := view{file("one!", "a"), file("two", "c")}
	has(t, f, 3, was)
	has(t, g, 3, was)
	run(t, f, appends("a", "?"), rename("c", "a"), write("d", "more"))
	has(t, g, 3, was)
	run(t, g, appends("a", "+"), link("a", "z"), syncs(), appends("z", "-"))
	has(t, g, 1, view{file("one!+-", "a", "z"), file("two", "c")})
	has(t, f, 6, view{file("two", "a"), file("more", "d")})
	f.Crash(4)
	has(t, f, 0, view{file("one!?", "a"), file("two", "c")})
	has(t, g, 1, view{file("one!+-", "a", "z"), file("two", "c")})
	g.Crash(0)
	has(t, g, 0, view{file("one!+", "a", "z"), file("two", "c")})
	g.Fuse(0)
	run(t, f, syncs())
}

// P7.5: files that share bytes, one grown here and one there, all ways round.
func TestCopiesThatGrow(t *testing.T) {
	f := made(t, 1000)
	run(t, f, write("a", "12345"), appends("a", "6"))
	g := f.Copy()
	h := g.Copy()
	for _, x := range []struct {
		f    *fs.FS
		data string
	}{{f, "f"}, {g, "g"}, {h, "h"}, {f, "F"}, {h, "H"}, {g, "G"}} {
		run(t, x.f, appends("a", x.data))
	}
	has(t, f, 4, view{file("123456fF", "a")})
	has(t, g, 4, view{file("123456gG", "a")})
	has(t, h, 4, view{file("123456hH", "a")})
	i := f.Copy()
	f.Crash(3)
	run(t, f, appends("a", "x"))
	has(t, i, 4, view{file("123456fF", "a")})
	i.Crash(2)
	run(t, i, appends("a", "i"))
	has(t, i, 1, view{file("123456i", "a")})
	has(t, f, 1, view{file("123456fx", "a")})
	j := i.Copy()
	j.Crash(0)
	run(t, j, appends("a", "jj"), syncs())
	i.Crash(1)
	run(t, i, appends("a", "ii"))
	has(t, i, 1, view{file("123456iii", "a")})
	has(t, j, 0, view{file("123456jj", "a")})
}

// P7.5: a copy has the same room, and no fuse.
func TestCopyHasItsRoom(t *testing.T) {
	for _, room := range []int{0, 3, 1 << 30} {
		f := made(t, room)
		f.Fuse(0)
		g := f.Copy()
		data := strings.Repeat("x", min(room, 3))
		run(t, g, write("a", data), syncs())
		want := api.OK
		if room <= 3 {
			want = api.ErrFull
		}
		answers(t, g, appends("a", "x"), want)
		answers(t, f, syncs(), api.ErrDead)
	}
}

// P7.7, W8
func TestNilFS(t *testing.T) {
	var f *fs.FS
	for range 2 {
		for _, c := range append(story(), write("", ""), write("a", strings.Repeat("x", api.MaxFile+1)), link("", ""), rename("", ""), remove(""), appends("", "")) {
			answers(t, f, c, api.ErrArg)
		}
		if b, e := f.Read("a"); len(b) != 0 || e != api.ErrNone {
			t.Error(b, e)
		}
		if first, n := f.Node("a"); first != "" || n != 0 {
			t.Error(first, n)
		}
		if len(f.Names("")) != 0 || f.Pending() != 0 || f.Used() != 0 || f.Copy() != nil {
			t.Error("something happens to a nil FS")
		}
		f.Fuse(0)
		f.Crash(1)
	}
}

// All of P7.1 to P7.6: calls of all kinds, held against the model; several copies, each with a model of its own.
func TestManyCalls(t *testing.T) {
	r := dice()
	for round := range rounds(2000) {
		size := []int{0, 1, 5, 12, 30, 1 << 30}[r.IntN(6)]
		all, models := []*fs.FS{made(t, size)}, []*model{newModel(size)}
		var log []string
		for range 120 {
			i := r.IntN(len(all))
			log = append(log, step(t, r, i, &all, &models))
			if t.Failed() || !same(t, all[i], models[i]) {
				t.Fatalf("round %d, room %d: %s", round, size, strings.Join(log, "; "))
			}
		}
		for i := range all {
			if !same(t, all[i], models[i]) || !sameBehindCrashes(t, all[i], models[i]) {
				t.Fatalf("round %d, room %d, the end of %d: %s", round, size, i, strings.Join(log, "; "))
			}
		}
	}
}

// step does something to one of some FS, and to its model; it tells what.
func step(t *testing.T, r *rand.Rand, i int, all *[]*fs.FS, models *[]*model) string {
	f, m := (*all)[i], (*models)[i]
	switch r.IntN(25) {
	case 0:
		keep := r.IntN(m.pending()+3) - 1
		f.Crash(keep)
		m.crash(keep)
		return fmt.Sprintf("%d: Crash(%d)", i, keep)
	case 1:
		n := r.IntN(12) - 2
		f.Fuse(n)
		m.fuse = n
		return fmt.Sprintf("%d: Fuse(%d)", i, n)
	case 2:
		if len(*all) < 4 {
			*all, *models = append(*all, f.Copy()), append(*models, m.copied())
			return fmt.Sprintf("%d: Copy", i)
		}
	}
	c := someCall(r)
	want := m.done(c)
	answers(t, f, c, want)
	return fmt.Sprintf("%d: %v %v", i, c, want)
}
