package scan_test

import (
	"fmt"
	"slices"
	"strings"
	"testing"

	"pantry/api"
	"pantry/path"
	"pantry/scan"
)

// mustRefer asks that just these of some paths stand in s.
func mustRefer(t *testing.T, what, s string, of []api.Path, want ...api.Path) {
	t.Helper()
	if got := scan.Refs([]byte(s), of); !slices.Equal(got, want) {
		t.Errorf("Refs of %s, %.300q: %.500q, want %.500q", what, s, got, want)
	}
}

// mustReferTree asks that just these of some paths stand in a tree.
func mustReferTree(t *testing.T, what string, x api.Tree, of []api.Path, want ...api.Path) {
	t.Helper()
	if got := scan.TreeRefs(x, of); !slices.Equal(got, want) {
		t.Errorf("TreeRefs of %s: %.500q, want %.500q", what, got, want)
	}
}

// P6.1: the chapter's example.
func TestExampleOfRefs(t *testing.T) {
	mustRefer(t, "a path", string(pathA), []api.Path{pathA, pathB}, pathA)
	mustRefer(t, "a path", string(pathB), []api.Path{pathA, pathB}, pathB)
}

// P6.1: at the very beginning, at the very end, and everywhere between, whatever stands around.
func TestRefsAtAllPlaces(t *testing.T) {
	of := []api.Path{pathA, pathB}
	for ahead := range 70 {
		for behind := range 70 {
			for _, around := range []string{"/", "0", "z", "e", "\x00", "\xff", "-", "F"} {
				mustRefer(t, "a row", strings.Repeat(around, ahead)+rowA+strings.Repeat(around, behind), of, pathA)
			}
		}
	}
}

// P6.1: any other byte in the stead of a digit is another row, or none.
func TestRefsOfEveryByte(t *testing.T) {
	for place := range 32 {
		for c := range 256 {
			s := []byte(rowA)
			s[place] = byte(c)
			of := []api.Path{pathA}
			var want []api.Path
			if strings.IndexByte(alphabet, byte(c)) >= 0 {
				other := api.Path(s) + "-other"
				of, want = append(of, other), append(want, other)
			}
			if s[place] == rowA[place] {
				want = of
			}
			want = slices.Sorted(slices.Values(want))
			mustRefer(t, "a byte", string(s), of, want...)
			mustRefer(t, "a byte among digits", rowB+string(s)+rowB, of, want...)
		}
	}
}

// P6.1: one byte that is no digit ends a run, wherever it stands, and the next run begins behind it.
func TestRunsThatBreak(t *testing.T) {
	of := []api.Path{pathA}
	for place := range 33 {
		for _, between := range []string{"e", "o", "t", "u", "/", ":", "`", "{", "-", "A", "F", "Z", "\x00", "\x80", "\xff", "0", "z"} {
			if place > 0 && place < 32 {
				mustRefer(t, "a broken row", rowA[:place]+between+rowA[place:], of)
			}
			mustRefer(t, "a broken row ahead", rowA[:place]+between+rowA, of, pathA)
			mustRefer(t, "a broken row behind", rowA+between+rowA[place:], of, pathA)
		}
		if place < 32 {
			mustRefer(t, "the beginning alone", rowA[:place], of)
			mustRefer(t, "the end alone", rowA[32-place:], of)
		}
	}
	mustRefer(t, "digits of which one is lacking", rowA[:31]+"!"+rowA[1:], of)
	mustRefer(t, "the other way round", rowA[16:]+rowA[:16], of)
	mustRefer(t, "great letters", strings.ToUpper(rowA), of)
}

// P6.1: of each digit alone.
func TestRefsOfEachDigit(t *testing.T) {
	var of []api.Path
	for _, c := range alphabet {
		of = append(of, api.Path(strings.Repeat(string(c), 32)+"-n"))
	}
	for i, c := range alphabet {
		mustRefer(t, "one digit", strings.Repeat(string(c), 32), of, of[i])
		mustRefer(t, "one digit more", strings.Repeat(string(c), 33), of, of[i])
		mustRefer(t, "one digit less", strings.Repeat(string(c), 31), of)
	}
	all := ""
	for _, p := range of {
		all += string(p)[:32]
	}
	mustRefer(t, "all digits", all, of, of...)
	mustRefer(t, "all digits in one row", alphabet, append(of, alphabet+"-n"), alphabet+"-n")
}

// P6.1: rows that overlap, inside one run of digits, are all met.
func TestRowsThatOverlap(t *testing.T) {
	run := rowA + rowB + rowC
	var of []api.Path
	for place := range len(run) - 31 {
		of = append(of, api.Path(run[place:place+32]+"-n"))
	}
	rising := slices.Sorted(slices.Values(of))
	mustRefer(t, "a run", run, of, rising...)
	mustRefer(t, "a run between others", "/"+run+"/", of, rising...)
	for place, p := range of {
		mustRefer(t, "a piece of a run", run[place:place+32], of, p)
		mustRefer(t, "a piece of a run, told last", run[:place+32], of, slices.Sorted(slices.Values(of[:place+1]))...)
	}
}

// P6.1: rising, whatever the order in which they stand or are listed.
func TestOrderOfRefs(t *testing.T) {
	rising := []api.Path{pathB, pathA, pathC}
	for _, of := range [][]api.Path{{pathA, pathB, pathC}, {pathA, pathC, pathB}, {pathB, pathA, pathC}, {pathB, pathC, pathA}, {pathC, pathA, pathB}, {pathC, pathB, pathA}} {
		for _, s := range []string{rowA + rowB + rowC, rowA + rowC + rowB, rowB + rowA + rowC, rowB + rowC + rowA, rowC + rowA + rowB, rowC + rowB + rowA} {
			mustRefer(t, "three", s, of, rising...)
		}
		mustRefer(t, "two", rowC+" "+rowB, of, pathB, pathC)
		mustRefer(t, "two", rowC+" "+rowA+rowC, of, pathA, pathC)
	}
}

// P6.1: two paths with the same digits and unlike names both stand where these do.
func TestTwins(t *testing.T) {
	of := goodPaths(rowA)
	rising := slices.Sorted(slices.Values(of))
	mustRefer(t, "digits", "x"+rowA, of, rising...)
	mustRefer(t, "a path of another name", rowA+"-other", of, rising...)
	mustRefer(t, "other digits", rowB+"-hello-2.12", of)
	mustReferTree(t, "digits", dir("a", link(rowA)), append(of, pathB), rising...)
}

// P6.1: a path that is listed several times is answered once.
func TestPathsListedTwice(t *testing.T) {
	of := []api.Path{pathA, pathB, pathA, "none", pathA, pathB}
	mustRefer(t, "one", rowA, of, pathA)
	mustRefer(t, "two", rowA+rowB+rowA, of, pathB, pathA)
	mustRefer(t, "many", rowA, slices.Repeat(of, 1000), pathA)
	mustReferTree(t, "two", dir(rowA, file(rowB), "l", link(rowA)), of, pathB, pathA)
}

// P6.1, W5: no bytes, no paths.
func TestRefsOfNothing(t *testing.T) {
	for _, of := range [][]api.Path{nil, {}, {""}, {pathA}, {pathA, pathB}} {
		mustRefer(t, "nothing", "", of)
		if got := scan.Refs(nil, of); len(got) > 0 {
			t.Errorf("%q", got)
		}
		for _, x := range []api.Tree{file(""), program(""), dir(), dir("a", dir())} {
			mustReferTree(t, "nothing", x, of)
		}
	}
	for _, of := range [][]api.Path{nil, {}, {"", ""}, wrongPaths()} {
		mustRefer(t, "no paths", rowA+strings.Repeat("0", 100), of)
		mustReferTree(t, "no paths", dir(rowA, file(rowA)), of)
	}
}

// P6.1: what is no path is left out, although its first bytes, or all of it, stand there.
func TestWhatIsNoPathIsLeftOut(t *testing.T) {
	for _, w := range wrongPaths() {
		s := string(w) + " " + rowA + " " + strings.Repeat("0", 40)
		mustRefer(t, "what is no path", s, []api.Path{w})
		mustRefer(t, "what is no path, and one", s, []api.Path{w, pathA, w, pathB}, pathA)
		mustReferTree(t, "what is no path", dir(rowA, file(s[:min(len(s), 1000)])), []api.Path{w})
	}
	mustRefer(t, "all of them", rowA, append(wrongPaths(), pathA, pathB), pathA)
	for _, p := range goodPaths(rowA) {
		mustRefer(t, "a path", rowA, append(wrongPaths(), p), p)
	}
}

// P6.1: what stands in a path's name counts as anything else.
func TestRowsInNames(t *testing.T) {
	p := api.Path(rowA + "-" + rowB + "-" + rowC)
	mustRefer(t, "a path in whose name others stand", string(p), []api.Path{pathA, pathB, pathC, p}, slices.Sorted(slices.Values([]api.Path{pathA, pathB, pathC, p}))...)
	mustRefer(t, "what stands in its name alone", rowB+rowC, []api.Path{p})
}

// P6.1: many paths in many bytes.
func TestManyPaths(t *testing.T) {
	var of, want []api.Path
	var b strings.Builder
	for i := range rounds(100000) {
		p, _ := path.Make("many", api.Hash{byte(i), byte(i >> 8), byte(i >> 16)}, "n")
		of = append(of, p)
		if i%3 == 0 {
			b.WriteString(string(p)[:32])
			want = append(want, p)
		}
	}
	slices.Sort(want)
	mustRefer(t, "one run", b.String(), of, want...)
	mustRefer(t, "much else", strings.Repeat("0", 1<<22)+b.String()+strings.Repeat("\xff", 1<<22), of, want...)
	last := b.String()[b.Len()-32:]
	mustRefer(t, "the last one", strings.Repeat("z", 1<<22)+last, of, of[slices.IndexFunc(of, func(p api.Path) bool { return string(p)[:32] == last })])
}

// P6.1: in the Data of Files and Links, and in names, wherever they are.
func TestTreeRefs(t *testing.T) {
	of := []api.Path{pathA, pathB, pathC}
	for _, c := range []struct {
		what string
		t    api.Tree
		want []api.Path
	}{
		{"a file", file("x" + rowA), []api.Path{pathA}},
		{"a program", program(rowA + "x"), []api.Path{pathA}},
		{"a link", link("/" + string(pathA) + "/bin"), []api.Path{pathA}},
		{"a name of a file", dir(rowA, file("")), []api.Path{pathA}},
		{"a name of a link", dir(rowA, link("x")), []api.Path{pathA}},
		{"a name of a directory", dir(rowA+"-x", dir()), []api.Path{pathA}},
		{"a name's end", dir("x0"+rowA, dir()), []api.Path{pathA}},
		{"the last of names", dir("a", file("x"), "b", dir(), rowA, file("")), []api.Path{pathA}},
		{"the last of kids", dir("a", file("x"), "b", dir(), "c", link(rowA)), []api.Path{pathA}},
		{"below", dir("a", dir("b", dir("c", dir(rowB, program("")), "d", link(rowA)))), []api.Path{pathB, pathA}},
		{"all", dir("a", link(rowC), rowA, dir("l", file(rowB))), []api.Path{pathB, pathA, pathC}},
		{"nothing", dir("a", link("to"), "b", dir("l", file("x"))), nil},
		{"the house", house(), []api.Path{pathB, pathA}},
	} {
		mustReferTree(t, c.what, c.t, of, c.want...)
	}
}

// P6.1: a row must stand in one piece.
func TestRowsInTwoPieces(t *testing.T) {
	of := []api.Path{pathA}
	for n := 1; n < 32; n++ {
		head, tail := rowA[:n], rowA[n:]
		for what, x := range map[string]api.Tree{
			"two files":           dir("a", file(head), "b", file(tail)),
			"two links":           dir("a", link(head), "b", link(tail)),
			"a file and a link":   dir("a", file(head), "b", link(tail)),
			"a name and its file": dir(head, file(tail)),
			"a name and its link": dir(head, link(tail)),
			"a file and a name":   dir("!", file(head), tail, dir()),
			"names":               dir(head, dir(tail, dir())),
			"a link over two":     link(head + "/" + tail),
		} {
			mustReferTree(t, what, x, of)
		}
	}
}

// P6.1: what is no tree has none.
func TestRefsOfWhatIsNoTree(t *testing.T) {
	for _, w := range wrongTrees() {
		mustReferTree(t, w.what, w.t, []api.Path{pathA, pathB})
		mustReferTree(t, w.what, w.t, nil)
	}
}

// P6.1: the deepest trees, the greatest, and the longest Data and names.
func TestRefsOfGreatTrees(t *testing.T) {
	of := []api.Path{pathA, pathB}
	mustReferTree(t, "a deep tree", under(63, file(rowA)), of, pathA)
	mustReferTree(t, "a deep name", under(62, dir(rowA, dir())), of, pathA)
	great := wide(65535, file("x"))
	mustReferTree(t, "a great tree", great, of)
	great.Names[65534] = "g" + rowA
	great.Kids[65534] = link(rowB)
	mustReferTree(t, "a great tree's last node", great, of, pathB, pathA)
	mustReferTree(t, "a long file", file(strings.Repeat("x", api.MaxFile-32)+rowA), of, pathA)
	mustReferTree(t, "a long link", link(strings.Repeat("x", 968)+rowA), of, pathA)
	mustReferTree(t, "a long name", dir(strings.Repeat("x", 68)+rowA, dir()), of, pathA)
}

// P6.1: against what is worked out path by path.
func TestSomeRefs(t *testing.T) {
	r := dice()
	counts := map[string]int{}
	for range rounds(30000) {
		rows := someRows(r)
		of := []api.Path{"none", api.Path(rows[0])}
		for range r.IntN(8) {
			of = append(of, api.Path(rows[r.IntN(len(rows))]+"-"+[]string{"a", "b", "", "."}[r.IntN(4)]))
		}
		s := someBytes(r, rows)
		want := wantRefs([]string{s}, of)
		mustRefer(t, "some bytes", s, of, want...)
		counts[fmt.Sprint("bytes ", min(len(want), 3))]++
		x := someTree(r, 3, rows)
		want = wantRefs(piecesOf(x), of)
		mustReferTree(t, fmt.Sprintf("%+v", x), x, of, want...)
		counts[fmt.Sprint("tree ", min(len(want), 3))]++
		if t.Failed() {
			t.FailNow()
		}
	}
	for _, what := range []string{"bytes 0", "bytes 1", "bytes 2", "bytes 3", "tree 0", "tree 1", "tree 2", "tree 3"} {
		if counts[what] < rounds(100) {
			t.Errorf("%s: met %d times", what, counts[what])
		}
	}
}
