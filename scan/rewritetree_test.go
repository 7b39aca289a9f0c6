package scan_test

import (
	"fmt"
	"reflect"
	"runtime"
	"strings"
	"testing"

	"pantry/api"
	"pantry/scan"
	"pantry/tree"
)

// mustRewriteTree asks that a tree becomes another one, so often.
func mustRewriteTree(t *testing.T, what string, x api.Tree, from, to api.Path, want api.Tree, times int) {
	t.Helper()
	y, n, e := scan.RewriteTree(x, from, to)
	if e != api.OK || n != times || !tree.Same(y, want) {
		t.Errorf("RewriteTree of %s: %.1000s, %d, %v, want %.1000s, %d", what, told(y), n, e, told(want), times)
	}
}

func mustNotRewriteTree(t *testing.T, what string, x api.Tree, from, to api.Path, want api.Errno) {
	t.Helper()
	if y, n, e := scan.RewriteTree(x, from, to); e != want || n != 0 || !isZero(y) {
		t.Errorf("RewriteTree of %s, from %.100q to %.100q: %d, %v, want %v", what, from, to, n, e, want)
	}
}

// P6.2: a tree's files, links and names.
func TestRewriteTree(t *testing.T) {
	for _, c := range []struct {
		what    string
		t, want api.Tree
		times   int
	}{
		{"a file", file("x" + rowA), file("x" + rowB), 1},
		{"a program", program(rowA + rowA + "!"), program(rowB + rowB + "!"), 2},
		{"a link", link("/" + string(pathA) + "/bin"), link("/" + rowB + "-hello-2.12/bin"), 1},
		{"a name of a file", dir(rowA, file("")), dir(rowB, file("")), 1},
		{"a name of a link", dir("x"+rowA, link("x")), dir("x"+rowB, link("x")), 1},
		{"a name of a directory", dir(rowA+"-x", dir("y", file("z"))), dir(rowB+"-x", dir("y", file("z"))), 1},
		{"a name with three rows", dir(rowA+rowA+rowA+"1234", dir()), dir(rowB+rowB+rowB+"1234", dir()), 3},
		{"names of one byte", dir("a", dir(), "b", file("")), dir("a", dir(), "b", file("")), 0},
		{"no such digits", dir(rowB, file(rowB+rowA[:31]), rowC, link(rowC)), dir(rowB, file(rowB+rowA[:31]), rowC, link(rowC)), 0},
		{"a name and its file", dir(rowA[:20], file(rowA[20:])), dir(rowA[:20], file(rowA[20:])), 0},
		{"the house", house(), dir(
			rowB+"-doc", dir("x-"+rowB, file(rowB+rowB), "y", file("")),
			"bin", dir("run", program("#!"+rowB+"/sh\n"), "to", link("../"+rowB+"/to")),
			"empty", dir(),
			"lib", file(rowB+rowA[:31]),
			"z", program("")), 6},
	} {
		mustRewriteTree(t, c.what, c.t, pathA, pathB, c.want, c.times)
	}
}

// P6.2, W5
func TestRewriteTreeOfNothing(t *testing.T) {
	mustRewriteTree(t, "an empty directory", dir(), pathA, pathB, dir(), 0)
	mustRewriteTree(t, "an empty program", program(""), pathA, pathB, program(""), 0)
	empty := api.Tree{Kind: api.Dir, Data: []byte{}, Names: []string{}, Kids: []api.Tree{}}
	mustRewriteTree(t, "empty lists", empty, pathA, pathB, dir(), 0)
}

// P6.2: from and to that are the same, or have the same digits.
func TestRewriteTreeToItself(t *testing.T) {
	mustRewriteTree(t, "itself", house(), pathA, pathA, house(), 6)
	mustRewriteTree(t, "its twin", house(), pathA, pathOf(rowA), house(), 6)
}

// P6.2: names are put in order anew, each with its Kid, at any level.
func TestNamesInOrderAnew(t *testing.T) {
	noughts, last := strings.Repeat("0", 32), "zz"+rowC[2:]
	x := dir("1", file("one"), rowA+"-a", link("aa"), rowA+"-b", program("ab"), "k", dir(), rowC, file("c"))
	for _, c := range []struct {
		what     string
		from, to api.Path
		want     api.Tree
		times    int
	}{
		{"to where it was", pathA, pathB, dir("1", file("one"), rowB+"-a", link("aa"), rowB+"-b", program("ab"), "k", dir(), rowC, file("c")), 2},
		{"to the end", pathA, pathOf(last), dir("1", file("one"), "k", dir(), rowC, file("c"), last+"-a", link("aa"), last+"-b", program("ab")), 2},
		{"to the beginning", pathA, pathOf(noughts), dir(noughts+"-a", link("aa"), noughts+"-b", program("ab"), "1", file("one"), "k", dir(), rowC, file("c")), 2},
		{"from the end", pathC, pathB, dir("1", file("one"), rowB, file("c"), rowA+"-a", link("aa"), rowA+"-b", program("ab"), "k", dir()), 1},
		{"among its like", pathC, pathA, dir("1", file("one"), rowA, file("c"), rowA+"-a", link("aa"), rowA+"-b", program("ab"), "k", dir()), 1},
	} {
		mustRewriteTree(t, c.what, x, c.from, c.to, c.want, c.times)
		mustRewriteTree(t, c.what+", below", under(5, x), c.from, c.to, under(5, c.want), c.times)
	}
}

// P6.2: names that meet once they are rewritten make it no tree any more.
func TestNamesThatMeet(t *testing.T) {
	meet := dir(rowB, file(""), rowA, dir())
	for what, x := range map[string]api.Tree{
		"two names":            meet,
		"below":                under(7, meet),
		"in the last kid":      dir("a", file(rowA), "b", dir(), "c", meet),
		"names with more":      dir("x"+rowB+"-y", link("x"), "x"+rowA+"-y", link("x")),
		"names of two rows":    dir(rowB+rowB, file(""), rowA+rowA, file("")),
		"one row of two":       dir(rowB+rowA, file(""), rowA+rowB, file("")),
		"three names":          dir(rowB+rowA, file(""), rowA+rowB, file(""), rowA+rowA, dir()),
		"others between":       dir(rowB, file(""), "a", file(""), "b", file(""), rowA, dir()),
		"kids that are alike":  dir(rowB, file("x"), rowA, file("x")),
		"kids that come to be": dir(rowB, file(rowB), rowA, file(rowA)),
	} {
		mustNotRewriteTree(t, what, x, pathA, pathB, api.ErrName)
		mustNotRewriteTree(t, what, x, pathB, pathA, api.ErrName)
	}
	apart := dir("a", dir(rowB, file("")), "b", dir(rowA, file("")))
	mustRewriteTree(t, "names of two directories", apart, pathA, pathB, dir("a", dir(rowB, file("")), "b", dir(rowB, file(""))), 1)
	above := dir(rowB, file(""), "c", dir(rowA, dir(rowB, dir())))
	mustRewriteTree(t, "names of two levels", above, pathA, pathB, dir(rowB, file(""), "c", dir(rowB, dir(rowB, dir()))), 1)
}

// P6.2: what is no tree, ahead of what is no path.
func TestRewriteOfWhatIsNoTree(t *testing.T) {
	for _, w := range wrongTrees() {
		mustNotRewriteTree(t, w.what, w.t, pathA, pathB, w.e)
		mustNotRewriteTree(t, w.what, w.t, pathA, pathA, w.e)
		for _, p := range wrongPaths()[:5] {
			mustNotRewriteTree(t, w.what, w.t, p, pathB, w.e)
			mustNotRewriteTree(t, w.what, w.t, pathA, p, w.e)
			mustNotRewriteTree(t, w.what, w.t, p, p, w.e)
		}
	}
}

// P6.2: what is no path, as from, as to, and as both: also where names would meet.
func TestRewriteTreeRefusesWhatIsNoPath(t *testing.T) {
	for _, w := range wrongPaths() {
		for _, x := range []api.Tree{file(""), file(rowA), dir(), house(), link(rowA), dir(rowB, file(""), rowA, file(""))} {
			mustNotRewriteTree(t, "from none", x, w, pathB, api.ErrForm)
			mustNotRewriteTree(t, "to none", x, pathA, w, api.ErrForm)
			mustNotRewriteTree(t, "from and to none", x, w, w, api.ErrForm)
		}
	}
}

// P6.2: the deepest trees, the greatest, and the longest Data and names.
func TestRewriteOfGreatTrees(t *testing.T) {
	mustRewriteTree(t, "a deep tree", under(63, file(rowA)), pathA, pathB, under(63, file(rowB)), 1)
	long := strings.Repeat("x", 68)
	mustRewriteTree(t, "a long name", dir(long+rowA, dir()), pathA, pathB, dir(long+rowB, dir()), 1)
	mustRewriteTree(t, "a long link", link(strings.Repeat("x", 968)+rowA), pathA, pathB, link(strings.Repeat("x", 968)+rowB), 1)
	rows := api.MaxFile / 32
	mustRewriteTree(t, "a long file", file(strings.Repeat(rowA, rows)), pathA, pathB, file(strings.Repeat(rowB, rows)), rows)
	mustRewriteTree(t, "a great tree", wide(65535, file(rowA)), pathA, pathB, wide(65535, file(rowB)), 65535)
	great, want := wide(65535, dir()), wide(65535, dir())
	for i := range great.Names {
		great.Names[i] += rowA
		want.Names[i] += rowB
	}
	mustRewriteTree(t, "a great tree's names", great, pathA, pathB, want, 65535)
}

// P6.2, W1: Data that many nodes share is not written ahead of names that meet.
func TestNamesThatMeetAheadOfData(t *testing.T) {
	x := wide(2000, file(strings.Repeat("x", 1<<20)))
	x.Names[1998], x.Names[1999] = "x"+rowB, "x"+rowA
	var ahead, behind runtime.MemStats
	runtime.ReadMemStats(&ahead)
	mustNotRewriteTree(t, "names that meet", x, pathA, pathB, api.ErrName)
	runtime.ReadMemStats(&behind)
	if n := behind.TotalAlloc - ahead.TotalAlloc; n > 1<<26 {
		t.Errorf("%d bytes were taken", n)
	}
}

// P6.2: against what is worked out node by node.
func TestSomeTreesRewritten(t *testing.T) {
	r := dice()
	counts := map[string]int{}
	for range rounds(50000) {
		rows := someRows(r)
		from, to := pathOf(rows[r.IntN(len(rows))]), pathOf(rows[r.IntN(len(rows))])
		if r.IntN(30) == 0 {
			to = to[:33]
		}
		x := someTree(r, 1+r.IntN(4), rows)
		want, times, wantE := wantRewriteTree(x, from, to)
		y, n, e := scan.RewriteTree(x, from, to)
		if e != wantE || n != times {
			t.Fatalf("RewriteTree(%s, %q, %q): %d, %v, want %d, %v", told(x), from, to, n, e, times, wantE)
		}
		counts[fmt.Sprint("error ", int(e))]++
		counts[fmt.Sprint("times ", min(n, 3))]++
		if e != api.OK {
			continue
		}
		if got := nodesOf(y); !reflect.DeepEqual(got, want) || tree.Check(y) != api.OK {
			t.Fatalf("RewriteTree(%s, %q, %q): %v, want %v", told(x), from, to, got, want)
		}
	}
	for _, what := range []string{"error 0", "error 3", "error 9", "times 0", "times 1", "times 2", "times 3"} {
		if counts[what] < rounds(100) {
			t.Errorf("%s: met %d times", what, counts[what])
		}
	}
}
