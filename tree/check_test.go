package tree_test

import (
	"fmt"
	"math"
	"math/rand/v2"
	"slices"
	"strings"
	"testing"

	"pantry/api"
	"pantry/tree"
)

func mustCheck(t *testing.T, what string, x api.Tree, want api.Errno) {
	t.Helper()
	if e := tree.Check(x); e != want {
		t.Errorf("Check of %s: %v, want %v", what, e, want)
	}
}

// P4.1
func TestCheckOfTrees(t *testing.T) {
	for what, x := range map[string]api.Tree{
		"a file":                  file("data"),
		"an empty file":           file(""),
		"a program":               program("run"),
		"any bytes":               file("\x00\xff/\n"),
		"a link":                  link("../to/it"),
		"a link to any bytes":     link("\x00"),
		"an empty directory":      dir(),
		"a directory":             dir("a", file(""), "b", link("a"), "c", dir("a", program("")), "d", dir()),
		"lists that are empty":    {Kind: api.File, Data: []byte{}, Names: []string{}, Kids: []api.Tree{}},
		"a directory's, likewise": {Kind: api.Dir, Data: []byte{}, Names: []string{}, Kids: []api.Tree{}},
		"a link's, likewise":      {Kind: api.Link, Data: []byte("x"), Names: []string{}, Kids: []api.Tree{}},
	} {
		mustCheck(t, what, x, api.OK)
		mustCheck(t, what+" with room", roomy(x), api.OK)
	}
}

// P4.1
func TestCheckOfWrongTrees(t *testing.T) {
	for _, w := range wrongTrees() {
		mustCheck(t, w.what, w.t, w.e)
		mustCheck(t, "a directory with "+w.what, dir("a", file(""), "b", w.t, "c", file("")), w.e)
	}
}

// P4.1
func TestKindsThatAreNone(t *testing.T) {
	for _, kind := range []int{0, 4, 5, -1, -2, -3, 256 + api.File, math.MinInt, math.MaxInt} {
		mustCheck(t, fmt.Sprint("the kind ", kind), api.Tree{Kind: kind}, api.ErrForm)
		mustCheck(t, fmt.Sprint("data of the kind ", kind), api.Tree{Kind: kind, Data: []byte("x")}, api.ErrForm)
		mustCheck(t, fmt.Sprint("an entry of the kind ", kind), dir("a", api.Tree{Kind: kind}), api.ErrForm)
	}
}

// P4.1: each Kind with all that it has and has not.
func TestWhatKindsHave(t *testing.T) {
	for mask := range 16 {
		x := api.Tree{Exec: mask&1 > 0}
		if mask&2 > 0 {
			x.Data = []byte("x")
		}
		if mask&4 > 0 {
			x.Names = []string{"a"}
		}
		if mask&8 > 0 {
			x.Kids = []api.Tree{file("")}
		}
		for kind, good := range map[int][]int{api.File: {0, 1, 2, 3}, api.Link: {2}, api.Dir: {0, 12}} {
			want := api.ErrForm
			if slices.Contains(good, mask) {
				want = api.OK
			}
			x.Kind = kind
			mustCheck(t, fmt.Sprintf("%+v", x), x, want)
		}
	}
}

// P4.1
func TestAsManyKidsAsNames(t *testing.T) {
	names := []string{"a", "b", "c", "d"}
	kids := slices.Repeat([]api.Tree{file("")}, 4)
	for n := range 5 {
		for k := range 5 {
			want := api.OK
			if n != k {
				want = api.ErrForm
			}
			mustCheck(t, fmt.Sprint(n, " names of ", k), api.Tree{Kind: api.Dir, Names: names[:n], Kids: kids[:k]}, want)
		}
	}
}

// P4.1
func TestLengthsOfData(t *testing.T) {
	for _, x := range []struct {
		kind, length int
		e            api.Errno
	}{
		{api.File, 0, api.OK}, {api.File, 1, api.OK}, {api.File, 1001, api.OK}, {api.File, 1<<20 - 1, api.OK}, {api.File, 1 << 20, api.OK}, {api.File, 1<<20 + 1, api.ErrLong}, {api.File, 1 << 22, api.ErrLong},
		{api.Link, 0, api.ErrForm}, {api.Link, 1, api.OK}, {api.Link, 2, api.OK}, {api.Link, 999, api.OK}, {api.Link, 1000, api.OK}, {api.Link, 1001, api.ErrLong}, {api.Link, 1<<20 + 1, api.ErrLong},
		{api.Dir, 0, api.OK}, {api.Dir, 1, api.ErrForm}, {api.Dir, 1<<20 + 1, api.ErrForm},
	} {
		one := api.Tree{Kind: x.kind, Data: make([]byte, x.length)}
		mustCheck(t, fmt.Sprint(x.length, " bytes of the kind ", x.kind), one, x.e)
		mustCheck(t, fmt.Sprint(x.length, " bytes in an entry of the kind ", x.kind), dir("a", one), x.e)
	}
}

// P4.1: names of all lengths, and every byte in them.
func TestEntryNames(t *testing.T) {
	for n := range 200 {
		want := api.ErrName
		if n >= 1 && n <= 100 {
			want = api.OK
		}
		mustCheck(t, fmt.Sprint("a name of ", n), dir(strings.Repeat("n", n), file("")), want)
	}
	for c := range 256 {
		b := string([]byte{byte(c)})
		want := api.OK
		if c == 0 || c == '/' {
			want = api.ErrName
		}
		for _, name := range []string{b + "a", "a" + b, "a" + b + "b", strings.Repeat("n", 99) + b, b + strings.Repeat("n", 99)} {
			mustCheck(t, fmt.Sprintf("the name %q", name), dir(name, file("")), want)
		}
		if c != '.' {
			mustCheck(t, fmt.Sprintf("the name %q", b), dir(b, file("")), want)
		}
	}
	for _, name := range []string{"...", "....", ".a", "..a", "a.", "a..", ". ", " ", "\\", "é", "\xff\xfe", strings.Repeat(".", 100), strings.Repeat("é", 50)} {
		mustCheck(t, fmt.Sprintf("the name %q", name), dir(name, file("")), api.OK)
	}
	for _, name := range wrongNames() {
		mustCheck(t, fmt.Sprintf("the name %.150q", name), dir(name, file("")), api.ErrName)
	}
}

// P4.1: names rise byte by byte, wherever they stand.
func TestNamesRise(t *testing.T) {
	rising := []string{"\x01", "-", "...", "0", "10", "9", "A", "B", "_", "a", "a\x01", "a-", "a.c", "aa", "ab", "b", "\x7f", "\x80", "é", "\xff", "\xff\xff"}
	for i, a := range rising {
		for j, b := range rising {
			want := api.ErrName
			if i < j {
				want = api.OK
			}
			mustCheck(t, fmt.Sprintf("%q and %q", a, b), dir(a, file(""), b, file("")), want)
			mustCheck(t, fmt.Sprintf("%q and %q below", a, b), dir("x", dir(a, file(""), b, dir())), want)
		}
	}
	all := api.Tree{Kind: api.Dir, Names: rising, Kids: slices.Repeat([]api.Tree{file("")}, len(rising))}
	mustCheck(t, "all of them", all, api.OK)
	for i := 1; i < len(rising); i++ {
		names := slices.Clone(rising)
		names[i-1], names[i] = names[i], names[i-1]
		mustCheck(t, fmt.Sprint("two of them the other way round, at ", i), api.Tree{Kind: api.Dir, Names: names, Kids: all.Kids}, api.ErrName)
		names[i-1] = names[i]
		mustCheck(t, fmt.Sprint("two of them alike, at ", i), api.Tree{Kind: api.Dir, Names: names, Kids: all.Kids}, api.ErrName)
	}
}

// P4.1: MaxTree nodes and one more, in one Dir and in many.
func TestNodes(t *testing.T) {
	if testing.Short() {
		t.Skip("trees of MaxTree nodes")
	}
	for _, x := range []struct {
		nodes int
		e     api.Errno
	}{{65535, api.OK}, {65536, api.OK}, {65537, api.ErrLong}, {65538, api.ErrLong}, {1 << 17, api.ErrLong}} {
		mustCheck(t, fmt.Sprint(x.nodes, " nodes in one"), wide(x.nodes-1), x.e)
		mustCheck(t, fmt.Sprint(x.nodes, " nodes below"), dir("a", wide(9), "b", under(20, wide(x.nodes-32))), x.e)
		mustCheck(t, fmt.Sprint(x.nodes, " nodes ahead"), dir("a", wide(x.nodes-3), "b", file("")), x.e)
	}
	many := api.Tree{Kind: api.Dir}
	for i := range 255 {
		many.Names, many.Kids = append(many.Names, fmt.Sprintf("%03d", i)), append(many.Kids, wide(256))
	}
	mustCheck(t, "65536 nodes in many", many, api.OK)
	mustCheck(t, "65537 nodes in many", dir("a", many), api.ErrLong)
}

// P4.1: MaxDeep deep and one more, whatever stands at the bottom.
func TestDeep(t *testing.T) {
	for n := range 200 {
		want := api.OK
		if n > 63 {
			want = api.ErrLong
		}
		for _, bottom := range []api.Tree{file("x"), link("x"), dir()} {
			mustCheck(t, fmt.Sprint(n, " directories"), under(n, bottom), want)
			if n > 0 {
				mustCheck(t, fmt.Sprint(n, " directories beside"), dir("a", file(""), "b", under(n-1, bottom), "c", link("a")), want)
			}
		}
	}
}

// P4.1: what comes first at one node.
func TestOrderAtANode(t *testing.T) {
	long := make([]byte, api.MaxFile+1)
	names := []string{"b", "a"}
	for _, x := range []wrongTree{
		{"too deep and no kind", under(64, api.Tree{}), api.ErrLong},
		{"too deep and a wrong name", under(64, dir("/", file(""))), api.ErrLong},
		{"as deep as may be and no kind", under(63, api.Tree{}), api.ErrForm},
		{"as deep as may be and a wrong name", under(63, dir("/", file(""))), api.ErrName},
		{"a long file with names", api.Tree{Kind: api.File, Data: long, Names: names}, api.ErrForm},
		{"a long file with kids", api.Tree{Kind: api.File, Data: long, Kids: []api.Tree{file("")}}, api.ErrForm},
		{"a long link with Exec", api.Tree{Kind: api.Link, Exec: true, Data: long}, api.ErrForm},
		{"a link to nothing with Exec", api.Tree{Kind: api.Link, Exec: true}, api.ErrForm},
		{"a directory with data and wrong names", api.Tree{Kind: api.Dir, Data: long, Names: names, Kids: make([]api.Tree, 2)}, api.ErrForm},
		{"a directory with Exec and wrong names", api.Tree{Kind: api.Dir, Exec: true, Names: names, Kids: make([]api.Tree, 2)}, api.ErrForm},
		{"wrong names and too few kids", api.Tree{Kind: api.Dir, Names: names, Kids: make([]api.Tree, 1)}, api.ErrForm},
		{"wrong names and too many kids", api.Tree{Kind: api.Dir, Names: names, Kids: make([]api.Tree, 3)}, api.ErrForm},
		{"long data of no kind", api.Tree{Kind: 4, Data: long}, api.ErrForm},
	} {
		mustCheck(t, x.what, x.t, x.e)
	}
}

// P4.1: a Dir's names come ahead of its Kids, each Kid wholly ahead of the next one.
func TestOrderOfNodes(t *testing.T) {
	long, none, wrong := link(strings.Repeat("x", 1001)), api.Tree{}, dir("/", file(""))
	for _, x := range []wrongTree{
		{"the last name ahead of the first kid", dir("a", none, "b", long, "b", file("")), api.ErrName},
		{"the first kid ahead of the second one", dir("a", none, "b", long), api.ErrForm},
		{"likewise", dir("a", long, "b", none), api.ErrLong},
		{"likewise", dir("a", wrong, "b", none), api.ErrName},
		{"what is deep in the first kid ahead of the second one", dir("a", under(50, long), "b", none), api.ErrLong},
		{"likewise", dir("a", dir("a", file(""), "b", dir("a", none)), "b", wrong, "c", long), api.ErrForm},
		{"what is too deep ahead of the second one", dir("a", under(63, file("")), "b", none), api.ErrLong},
		{"the first one ahead of what is too deep", dir("a", none, "b", under(63, file(""))), api.ErrForm},
		{"a name below ahead of the kid beside it", dir("a", dir("x", none, "x", none), "b", long), api.ErrName},
		{"a kid ahead of the node MaxTree + 1", dir("a", wide(65000), "b", none, "c", wide(65000)), api.ErrForm},
		{"the node MaxTree + 1 ahead of a kid", dir("a", wide(65000), "b", wide(65000), "c", none), api.ErrLong},
		{"the name of too many", dir("a", wide(65000), "b", dir("a", wide(65000), "..", none)), api.ErrName},
	} {
		mustCheck(t, x.what, x.t, x.e)
	}
	for _, x := range []wrongTree{
		{"the node MaxTree is wrong", dir("a", wide(65533), "b", none), api.ErrForm},
		{"the node MaxTree has a wrong name", dir("a", wide(65533), "b", wrong), api.ErrName},
		{"the node MaxTree is too long", dir("a", wide(65533), "b", long), api.ErrLong},
		{"the node MaxTree + 1 is wrong", dir("a", wide(65534), "b", none), api.ErrLong},
		{"the node MaxTree + 1 has a wrong name", dir("a", wide(65534), "b", wrong), api.ErrLong},
	} {
		mustCheck(t, x.what, x.t, x.e)
	}
	many := wide(1 << 17)
	many.Names[1<<17-1] = "a"
	mustCheck(t, "the last name of too many", many, api.ErrName)
}

// P4.1: trees with faults here and there, against another way to work it out.
func TestCheckOfFaults(t *testing.T) {
	r := dice()
	met := map[api.Errno]int{}
	for range rounds(20000) {
		x := someTree(r, 5)
		for range r.IntN(4) {
			x = spoilt(r, x)
		}
		e := tree.Check(x)
		if want := wantCheck(x); e != want {
			t.Fatalf("Check(%v): %v, want %v", x, e, want)
		}
		met[e]++
	}
	for _, e := range []api.Errno{api.OK, api.ErrForm, api.ErrLong, api.ErrName} {
		if met[e] < rounds(100) {
			t.Errorf("%v was met %d times", e, met[e])
		}
	}
}

// spoilt is a tree with one node, somewhere in it, that has a fault.
func spoilt(r *rand.Rand, t api.Tree) api.Tree {
	if len(t.Kids) > 0 && r.IntN(4) > 0 {
		i := r.IntN(len(t.Kids))
		t.Kids = slices.Clone(t.Kids)
		t.Kids[i] = spoilt(r, t.Kids[i])
		return t
	}
	switch r.IntN(9) {
	case 0:
		t.Kind = r.IntN(6) - 1
	case 1:
		t.Exec = !t.Exec
	case 2:
		t.Data = make([]byte, []int{0, 1, 1000, 1001, 1 << 20, 1<<20 + 1}[r.IntN(6)])
	case 3:
		t.Names = append(slices.Clone(t.Names), "z")
	case 4:
		t.Kids = append(slices.Clone(t.Kids), file("x"))
	case 5:
		t.Names, t.Kids = append(slices.Clone(t.Names), wrongNames()[r.IntN(9)]), append(slices.Clone(t.Kids), file("x"))
	case 6:
		t.Names = slices.Clone(t.Names)
		slices.Reverse(t.Names)
	case 7:
		t = under(55+r.IntN(15), t)
	case 8:
		t.Data = nil
	}
	return t
}

// W1: what holds itself ends.
func TestEndless(t *testing.T) {
	x := endless()
	mustCheck(t, "an endless tree", x, api.ErrLong)
	if n, b := tree.Count(x); n != 0 || b != 0 || len(tree.Files(x)) != 0 || tree.Same(x, x) {
		t.Error("an endless tree is one")
	}
	if y, e := tree.At(x, "a/b/c"); e != api.ErrLong || y.Kind != 0 {
		t.Errorf("At: %v", e)
	}
	if y, e := tree.Put(dir(), "a", x); e != api.ErrLong || y.Kind != 0 {
		t.Errorf("Put: %v", e)
	}
}
