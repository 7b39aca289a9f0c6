package tree_test

import (
	"fmt"
	"maps"
	"math/rand/v2"
	"runtime"
	"slices"
	"strings"
	"sync"
	"testing"
	"unsafe"

	"pantry/api"
	"pantry/tree"
)

func mustPut(t *testing.T, x api.Tree, place string, y api.Tree) api.Tree {
	t.Helper()
	z, e := tree.Put(x, place, y)
	if e != api.OK {
		t.Fatalf("Put at %.100q: %v", place, e)
	}
	return z
}

func mustNotPut(t *testing.T, what string, x api.Tree, place string, y api.Tree, want api.Errno) {
	t.Helper()
	if z, e := tree.Put(x, place, y); e != want || !isZero(z) {
		t.Errorf("Put, %s, at %.100q: kind %d, %v, want %v", what, place, z.Kind, e, want)
	}
}

func mustNotFind(t *testing.T, what string, x api.Tree, place string, want api.Errno) {
	t.Helper()
	if z, e := tree.At(x, place); e != want || !isZero(z) {
		t.Errorf("At, %s, %.100q: kind %d, %v, want %v", what, place, z.Kind, e, want)
	}
}

func mustBe(t *testing.T, what string, got, want api.Tree) {
	t.Helper()
	if g, w := flat(got), flat(want); !maps.Equal(g, w) || wantCheck(got) != api.OK {
		t.Errorf("%s: %q, want %q", what, g, w)
	}
}

func isZero(t api.Tree) bool {
	return t.Kind == 0 && !t.Exec && len(t.Data)+len(t.Names)+len(t.Kids) == 0
}

// house is a tree with all that trees have.
func house() api.Tree {
	return dir(
		"a", dir("b", file("one"), "empty", dir(), "l", link("b")),
		"a.c", program("two"),
		"l", link("a/b"),
		"z", file(""))
}

// P4.2 to P4.4: the chapter's examples.
func TestExamples(t *testing.T) {
	x := mustPut(t, dir(), "a/b", file("x"))
	if l := tree.Files(x); !slices.Equal(l, []string{"a/b"}) {
		t.Errorf("Files: %q", l)
	}
	y, e := tree.At(x, "a")
	if e != api.OK || y.Kind != api.Dir {
		t.Errorf("At a: %v, %v", y, e)
	}
	mustNotFind(t, "the example", x, "a/c", api.ErrNone)
	mustNotFind(t, "the example", x, "a//b", api.ErrName)
}

// P4.2: each is the same as itself and its copies alone.
func TestSame(t *testing.T) {
	others := []api.Tree{
		file(""), file("x"), file("y"), file("xx"), program(""), program("x"), link("x"), link("y"), dir(),
		dir("a", file("")), dir("b", file("")), dir("a", file("x")), dir("a", program("")), dir("a", link("x")), dir("a", dir()),
		dir("a", file(""), "b", file("")), dir("a", file(""), "c", file("")), dir("a", file("x"), "b", file("")), dir("a", file(""), "b", file("x")),
		dir("a", dir("a", dir("a", file("x")))), dir("a", dir("a", dir("a", file("y")))), dir("a", dir("a", dir("b", file("x")))), dir("a", dir("b", dir("a", file("x")))),
		dir("a", dir("a", file(""), "b", file(""))), dir("a", dir("a", file("")), "b", file("")), under(63, file("x")), under(62, file("x")), under(63, dir()), house(),
	}
	for i, a := range others {
		for j, b := range others {
			if tree.Same(a, roomy(b)) != (i == j) {
				t.Errorf("Same(%q, %q): %v", flat(a), flat(b), i != j)
			}
		}
	}
	empty := api.Tree{Kind: api.Dir, Data: []byte{}, Names: []string{}, Kids: []api.Tree{}}
	if !tree.Same(empty, dir()) || !tree.Same(dir(), empty) || !tree.Same(dir("a", empty), dir("a", dir())) || !tree.Same(api.Tree{Kind: api.File, Data: []byte{}}, api.Tree{Kind: api.File}) {
		t.Error("lists that are empty are not as none")
	}
}

// P4.2: what is no tree is the same as nothing, has nothing and counts nothing.
func TestWhatIsNoTree(t *testing.T) {
	for _, w := range wrongTrees() {
		if tree.Same(w.t, w.t) || tree.Same(w.t, file("")) || tree.Same(file(""), w.t) {
			t.Errorf("%s is the same as something", w.what)
		}
		if n, b := tree.Count(w.t); n != 0 || b != 0 {
			t.Errorf("Count of %s: %d, %d", w.what, n, b)
		}
		beside := dir("a", file("x"), "b", w.t)
		if n, b := tree.Count(beside); n != 0 || b != 0 {
			t.Errorf("Count beside %s: %d, %d", w.what, n, b)
		}
		if l := tree.Files(w.t); len(l) != 0 {
			t.Errorf("Files of %s: %q", w.what, l)
		}
		if l := tree.Files(beside); len(l) != 0 {
			t.Errorf("Files beside %s: %q", w.what, l)
		}
	}
}

// P4.2
func TestCount(t *testing.T) {
	for i, x := range []struct {
		t            api.Tree
		nodes, bytes int
	}{
		{file(""), 1, 0}, {file("abc"), 1, 3}, {program("abc"), 1, 3}, {link("abc"), 1, 0}, {dir(), 1, 0},
		{dir("a", file("x")), 2, 1}, {dir("a", link("x")), 2, 0}, {house(), 8, 6}, {under(63, file("abc")), 64, 3}, {wide(65535), 65536, 0},
		{dir("a", file(strings.Repeat("x", 1<<20)), "b", file(strings.Repeat("x", 1<<20))), 3, 1 << 21},
	} {
		if n, b := tree.Count(x.t); n != x.nodes || b != x.bytes {
			t.Errorf("Count, %d: %d, %d, want %d, %d", i, n, b, x.nodes, x.bytes)
		}
	}
	same := wide(65535)
	data := make([]byte, api.MaxFile)
	for i := range same.Kids {
		same.Kids[i].Data = data
	}
	if n, b := tree.Count(same); n != 1<<16 || b != 65535<<20 {
		t.Errorf("Count of the greatest: %d, %d", n, b)
	}
}

// P4.2: places rise, however names do.
func TestFiles(t *testing.T) {
	for i, x := range []struct {
		t     api.Tree
		files []string
	}{
		{file("x"), []string{""}}, {program(""), []string{""}}, {link("x"), nil}, {dir(), nil}, {dir("a", dir(), "b", link("x")), nil},
		{dir("a", file("")), []string{"a"}},
		{dir("a", dir("b", file("")), "a.c", file("")), []string{"a.c", "a/b"}},
		{dir("a", dir("b", file("")), "a-", dir("b", file("")), "a0", file("")), []string{"a-/b", "a/b", "a0"}},
		{dir("a", dir("a", dir("x", file("")), "a!", file("")), "a!", dir("a", file("")), "a!!", file("")), []string{"a!!", "a!/a", "a/a!", "a/a/x"}},
		{dir("a", file(""), "a\x01", file(""), "a.c", dir("d", file("")), "aa", file("")), []string{"a", "a\x01", "a.c/d", "aa"}},
		{house(), []string{"a.c", "a/b", "z"}},
		{under(63, file("")), []string{strings.Repeat("d/", 62) + "d"}},
	} {
		if l := tree.Files(x.t); !slices.Equal(l, x.files) {
			t.Errorf("Files, %d: %q, want %q", i, l, x.files)
		}
	}
	if l := tree.Files(wide(65535)); len(l) != 65535 || !slices.IsSorted(l) || l[65534] != "f00065534" {
		t.Errorf("Files of many: %d", len(l))
	}
}

// P4.3
func TestAt(t *testing.T) {
	x := house()
	for place, want := range map[string]api.Tree{
		"": x, "a": x.Kids[0], "a/b": file("one"), "a/empty": dir(), "a/l": link("b"), "a.c": program("two"), "l": link("a/b"), "z": file(""),
	} {
		y, e := tree.At(x, place)
		if e != api.OK {
			t.Errorf("At %q: %v", place, e)
		}
		mustBe(t, "At "+place, y, want)
	}
	for _, place := range []string{"b", "A", "a ", "aa", "a.", "\x01", "\xff", "...", "a/a", "a/bb", "a/empty/x", "a/b/c", "a/l/c", "l/b", "a.c/d", "z/z", "n/o/n/e", strings.Repeat("n", 100), "a/" + strings.Repeat("n", 100), strings.Repeat("a/", 1<<16) + "a"} {
		mustNotFind(t, "nothing", x, place, api.ErrNone)
	}
	for _, place := range wrongPlaces() {
		mustNotFind(t, "no place", x, place, api.ErrName)
		mustNotFind(t, "no place", file("x"), place, api.ErrName)
		mustNotFind(t, "no place", dir(), place, api.ErrName)
	}
	for _, x := range []api.Tree{file("x"), link("x")} {
		y, e := tree.At(x, "")
		if e != api.OK {
			t.Errorf("At the tree itself: %v", e)
		}
		mustBe(t, "At the tree itself", y, x)
		mustNotFind(t, "no entries", x, "a", api.ErrNone)
	}
}

// P4.3: each of many entries is found, and nothing between them.
func TestAtOfMany(t *testing.T) {
	x := wide(100)
	for i := range x.Kids {
		x.Kids[i] = file(x.Names[i])
	}
	for _, name := range x.Names {
		y, e := tree.At(x, name)
		if e != api.OK || string(y.Data) != name {
			t.Errorf("At %q: %q, %v", name, y.Data, e)
		}
		mustNotFind(t, "between", x, name+"a", api.ErrNone)
		mustNotFind(t, "between", x, name[:len(name)-1], api.ErrNone)
	}
	longest := strings.Repeat("n", 100)
	y, e := tree.At(dir(longest, dir(longest, file("x"))), longest+"/"+longest)
	if e != api.OK || string(y.Data) != "x" {
		t.Errorf("At the longest names: %q, %v", y.Data, e)
	}
	y, e = tree.At(under(63, file("x")), strings.Repeat("d/", 62)+"d")
	if e != api.OK || string(y.Data) != "x" {
		t.Errorf("At the deepest place: %q, %v", y.Data, e)
	}
}

// P4.3: what is no tree is told ahead of what is no place.
func TestOrderAtAPlace(t *testing.T) {
	for _, w := range wrongTrees() {
		for _, place := range append(wrongPlaces(), "", "a", "none") {
			mustNotFind(t, w.what, w.t, place, w.e)
		}
	}
}

// P4.4: into the stead of what stood there, or where nothing stood.
func TestPut(t *testing.T) {
	b, l, c, z := file("one"), link("b"), program("two"), file("")
	top := func(a api.Tree, more ...any) api.Tree {
		return dir(append([]any{"a", a, "a.c", c, "l", link("a/b"), "z", z}, more...)...)
	}
	for _, x := range []struct {
		place   string
		x, want api.Tree
	}{
		{"", file("new"), file("new")},
		{"", link("new"), link("new")},
		{"", dir(), dir()},
		{"", dir("a", dir()), dir("a", dir())},
		{"a/b", file("new"), top(dir("b", file("new"), "empty", dir(), "l", l))},
		{"a/b", dir("x", file("")), top(dir("b", dir("x", file("")), "empty", dir(), "l", l))},
		{"a/l", dir(), top(dir("b", b, "empty", dir(), "l", dir()))},
		{"a", file("new"), top(file("new"))},
		{"a", dir(), top(dir())},
		{"a", dir("n", file("")), top(dir("n", file("")))},
		{"a/empty/n", link("new"), top(dir("b", b, "empty", dir("n", link("new")), "l", l))},
		{"a/a", program("new"), top(dir("a", program("new"), "b", b, "empty", dir(), "l", l))},
		{"a/c", file("new"), top(dir("b", b, "c", file("new"), "empty", dir(), "l", l))},
		{"a/n/e/w", dir(), top(dir("b", b, "empty", dir(), "l", l, "n", dir("e", dir("w", dir()))))},
		{"zz/n/e/w", file("new"), top(house().Kids[0], "zz", dir("n", dir("e", dir("w", file("new")))))},
		{"\xff", file("new"), top(house().Kids[0], "\xff", file("new"))},
		{"A", file("new"), dir("A", file("new"), "a", house().Kids[0], "a.c", c, "l", link("a/b"), "z", z)},
		{"l", house(), dir("a", house().Kids[0], "a.c", c, "l", house(), "z", z)},
	} {
		mustBe(t, "Put at "+x.place, mustPut(t, house(), x.place, x.x), x.want)
	}
	for _, old := range []api.Tree{file("old"), link("old"), dir(), house()} {
		mustBe(t, "Put at the empty place", mustPut(t, old, "", file("new")), file("new"))
	}
	mustBe(t, "Put of the longest name", mustPut(t, dir(), strings.Repeat("n", 100), file("x")), dir(strings.Repeat("n", 100), file("x")))
}

// P4.4
func TestPutBelowWhatIsNoDir(t *testing.T) {
	full := wide(65535)
	for _, place := range []string{"z/a", "z/a/b", "l/a", "a.c/x", "a/b/c", "a/b/c/d/e", "a/l/b", "a/b/" + strings.Repeat("d/", 100) + "d", "z" + strings.Repeat("/d", 1<<16)} {
		for _, x := range []api.Tree{file("x"), dir(), under(63, file("x")), full} {
			mustNotPut(t, "no directory above", house(), place, x, api.ErrHas)
		}
	}
	for _, x := range []api.Tree{file(""), program("x"), link("a")} {
		mustNotPut(t, "no directory above", x, "a", file(""), api.ErrHas)
		mustNotPut(t, "no directory above", x, "a/b/c", file(""), api.ErrHas)
	}
	deepest := strings.Repeat("d/", 62) + "d"
	mustNotPut(t, "the deepest file above", under(63, file("x")), deepest+"/d", file(""), api.ErrHas)
	mustNotPut(t, "the deepest file above", under(63, file("x")), deepest+"/d/d", file(""), api.ErrHas)
	mustNotPut(t, "the deepest directory above", under(63, dir()), deepest+"/d", file(""), api.ErrLong)
	mustNotPut(t, "the deepest directory above", under(63, dir()), deepest+"/d/d", file(""), api.ErrLong)
}

// P4.4: the error of t, then of x, then of the place, then what stands above it.
func TestOrderOfPut(t *testing.T) {
	places := append(wrongPlaces(), "", "a", "a/b/c", "z/a")
	full := wide(65535)
	for _, w := range wrongTrees() {
		for _, place := range places {
			mustNotPut(t, w.what, w.t, place, file(""), w.e)
			mustNotPut(t, w.what, house(), place, w.t, w.e)
			mustNotPut(t, w.what, file(""), place, w.t, w.e)
		}
		for _, other := range wrongTrees() {
			mustNotPut(t, w.what+" and "+other.what, w.t, "/", other.t, w.e)
		}
	}
	for _, place := range wrongPlaces() {
		mustNotPut(t, "no place", house(), place, file(""), api.ErrName)
		mustNotPut(t, "no place", file(""), place, file(""), api.ErrName)
		mustNotPut(t, "no place", house(), place, full, api.ErrName)
		mustNotPut(t, "no place below a file", house(), "z/"+place, file(""), api.ErrName)
	}
	mustNotPut(t, "no place, too deep", dir(), strings.Repeat("d/", 1<<16), file(""), api.ErrName)
	mustNotPut(t, "no place, too deep", dir(), strings.Repeat("d/", 1<<16)+"..", file(""), api.ErrName)
}

// P4.4: what would be is MaxDeep deep, or more.
func TestPutTooDeep(t *testing.T) {
	for names := range 80 {
		place := strings.TrimSuffix(strings.Repeat("d/", names), "/")
		for deep := 1; deep <= 64; deep++ {
			for _, bottom := range []api.Tree{file("x"), dir()} {
				x := under(deep-1, bottom)
				if names+deep > 64 {
					mustNotPut(t, "too deep", dir(), place, x, api.ErrLong)
				} else {
					mustBe(t, "Put as deep as may be", mustPut(t, dir(), place, x), under(names+deep-1, bottom))
				}
			}
		}
	}
	mustNotPut(t, "far too deep", dir(), strings.Repeat("d/", 1<<20)+"d", file(""), api.ErrLong)
	mustNotPut(t, "far too deep", house(), "a/"+strings.Repeat("d/", 1<<20)+"d", file(""), api.ErrLong)
}

// P4.4: what would be has MaxTree nodes, or more.
func TestPutTooGreat(t *testing.T) {
	if testing.Short() {
		t.Skip("trees of MaxTree nodes")
	}
	full, spare := wide(65535), wide(65533)
	mustNotPut(t, "one more", full, "a", file(""), api.ErrLong)
	mustNotPut(t, "one more", full, "f00000000x", dir(), api.ErrLong)
	mustNotPut(t, "one more in the stead", full, "f00000000", dir("a", file("")), api.ErrLong)
	mustNotPut(t, "three more by directories", spare, "a/b/c", file(""), api.ErrLong)
	mustNotPut(t, "three more", spare, "a", wide(2), api.ErrLong)
	mustNotPut(t, "twice as many", full, "a", full, api.ErrLong)
	for _, x := range []struct {
		t     api.Tree
		place string
		x     api.Tree
		nodes int
	}{
		{full, "f00000000", file("x"), 65536}, {full, "f00065534", dir(), 65536}, {full, "", wide(3), 4}, {full, "", full, 65536},
		{spare, "a/b", file(""), 65536}, {spare, "a", wide(1), 65536}, {spare, "f00000007", wide(2), 65536}, {dir("a", full.Kids[0], "b", wide(65000)), "b", wide(65533), 65536},
		{dir("a", wide(65534)), "a", file(""), 2}, {dir(), "a", wide(65534), 65536},
	} {
		y := mustPut(t, x.t, x.place, x.x)
		if n, _ := tree.Count(y); n != x.nodes || wantCheck(y) != api.OK {
			t.Errorf("Put at %q: %d nodes, want %d", x.place, n, x.nodes)
		}
	}
}

// P4.4: trees whose files share their Data are not copied just to tell that they are too great.
func TestPutTooGreatCopiesNothing(t *testing.T) {
	full := wide(65535)
	data := make([]byte, 1<<14)
	for i := range full.Kids {
		full.Kids[i].Data = data
	}
	var before, behind runtime.MemStats
	runtime.ReadMemStats(&before)
	mustNotPut(t, "one more", full, "a", file(""), api.ErrLong)
	mustNotPut(t, "twice as many", full, "a", full, api.ErrLong)
	mustNotPut(t, "too deep", full, strings.Repeat("d/", 100)+"d", full, api.ErrLong)
	mustNotPut(t, "below a file", full, "f00000000/a", full, api.ErrHas)
	runtime.ReadMemStats(&behind)
	if n := behind.TotalAlloc - before.TotalAlloc; n > 1<<28 {
		t.Errorf("%d bytes were taken", n)
	}
}

// P4.2 to P4.5: many Puts one behind the other, against maps of places.
func TestManyPuts(t *testing.T) {
	r := dice()
	met := map[api.Errno]int{}
	for range rounds(300) {
		x := dir()
		for range 30 {
			place, y := somePlace(r), someTree(r, 1+r.IntN(3))
			want, wantE := flatPut(flat(x), place, flat(y))
			z, e := tree.Put(x, place, y)
			met[e]++
			if e != wantE {
				t.Fatalf("Put(%q, %q, %q): %v, want %v", flat(x), place, flat(y), e, wantE)
			}
			if e != api.OK {
				continue
			}
			if !maps.Equal(flat(z), want) || wantCheck(z) != api.OK {
				t.Fatalf("Put(%q, %q, %q): %q, want %q", flat(x), place, flat(y), flat(z), want)
			}
			mustTell(t, z, want)
			if got, e := tree.At(z, place); e != api.OK || !tree.Same(got, y) {
				t.Fatalf("At %q of Put: %v, %v, want %v", place, got, e, y)
			}
			mustFind(t, r, z, want)
			// What is Put in the stead of the whole may be one file, into which nothing goes any more.
			if place != "" {
				x = z
			}
		}
	}
	if met[api.OK] < rounds(1000) || met[api.ErrHas] < rounds(1000) {
		t.Errorf("met: %v", met)
	}
}

// flatPut is Put of maps of places.
func flatPut(m map[string]string, place string, x map[string]string) (map[string]string, api.Errno) {
	directory := flat(dir())[""]
	out := maps.Clone(m)
	for _, p := range above(place) {
		if was, has := m[p]; has && was != directory {
			return nil, api.ErrHas
		}
		out[p] = directory
	}
	maps.DeleteFunc(out, func(p, _ string) bool { return isIn(p, place) })
	for p, what := range x {
		out[strings.Trim(place+"/"+p, "/")] = what
	}
	return out, api.OK
}

// mustTell asks Files and Count of a tree that is a map of places.
func mustTell(t *testing.T, x api.Tree, m map[string]string) {
	t.Helper()
	var places []string
	size := 0
	for p, what := range m {
		for _, start := range []string{flat(file(""))[""], flat(program(""))[""]} {
			if strings.HasPrefix(what, start) {
				places, size = append(places, p), size+len(what)-len(start)
			}
		}
	}
	slices.Sort(places)
	if l := tree.Files(x); !slices.Equal(l, places) {
		t.Fatalf("Files(%q): %q, want %q", m, l, places)
	}
	if n, b := tree.Count(x); n != len(m) || b != size {
		t.Fatalf("Count(%q): %d, %d, want %d, %d", m, n, b, len(m), size)
	}
}

// mustFind asks At of a tree that is a map of places.
func mustFind(t *testing.T, r *rand.Rand, x api.Tree, m map[string]string) {
	t.Helper()
	for _, place := range []string{somePlace(r), somePlace(r), somePlace(r)} {
		want := map[string]string{}
		for p, what := range m {
			if isIn(p, place) {
				want[strings.TrimPrefix(strings.TrimPrefix(p, place), "/")] = what
			}
		}
		y, e := tree.At(x, place)
		if len(want) == 0 && e == api.ErrNone && isZero(y) {
			continue
		}
		if len(want) == 0 || e != api.OK || !maps.Equal(flat(y), want) {
			t.Fatalf("At(%q, %q): %q, %v, want %q", m, place, flat(y), e, want)
		}
	}
}

// P4.5, W6: nothing that is handed in changes, nor the room behind its ends.
func TestNothingChanges(t *testing.T) {
	r := dice()
	for range rounds(2000) {
		x, y, place := roomy(someTree(r, 4)), roomy(someTree(r, 3)), somePlace(r)
		wasX, wasY := told(x), told(y)
		tree.Check(x)
		tree.Same(x, y)
		tree.Same(x, x)
		tree.At(x, place)
		tree.Put(x, place, y)
		tree.Put(x, place, x)
		tree.Files(x)
		tree.Count(x)
		if told(x) != wasX || told(y) != wasY {
			t.Fatalf("at %q: %s and %s, were %s and %s", place, told(x), told(y), wasX, wasY)
		}
	}
}

// P4.5, W6: what is answered is new memory, and no two of its lists share any.
func TestNewMemory(t *testing.T) {
	r := dice()
	for range rounds(2000) {
		x, y, place := roomy(someTree(r, 4)), roomy(someTree(r, 3)), somePlace(r)
		given := append(append(spans(x), spans(y)...), textSpan(place))
		if z, e := tree.At(x, place); e == api.OK && (meets(spans(z), given) || meetItself(spans(z))) {
			t.Fatalf("At(%q, %q) shares memory", flat(x), place)
		}
		if z, e := tree.Put(x, place, y); e == api.OK && (meets(spans(z), given) || meetItself(spans(z))) {
			t.Fatalf("Put(%q, %q, %q) shares memory", flat(x), place, flat(y))
		}
		var files []span
		for _, p := range tree.Files(x) {
			files = append(files, textSpan(p))
		}
		if meets(files, given) || meetItself(files) {
			t.Fatalf("Files(%q) shares memory", flat(x))
		}
	}
}

// textSpan is the memory of a text.
func textSpan(s string) span {
	from := uintptr(unsafe.Pointer(unsafe.StringData(s)))
	return span{from, from + uintptr(len(s))}
}

// P4.5, W6: parts that are one in what is handed in are not so in what is answered; empty lists are nothing's.
func TestSharedParts(t *testing.T) {
	data := []byte("data")
	leaf := api.Tree{Kind: api.File, Data: data}
	kids := []api.Tree{leaf, {Kind: api.Link, Data: data[:2]}, {Kind: api.Dir, Data: data[:0], Names: make([]string, 0, 3), Kids: make([]api.Tree, 0, 3)}}
	names := []string{"a", "b", "c"}
	part := api.Tree{Kind: api.Dir, Names: names, Kids: kids}
	x := api.Tree{Kind: api.Dir, Names: names, Kids: []api.Tree{part, part, leaf}}
	z, e := tree.At(x, "")
	mustBe(t, "At", z, x)
	if e != api.OK || meets(spans(z), spans(x)) || meetItself(spans(z)) {
		t.Error("At shares memory")
	}
	y := mustPut(t, x, "b/d/e", x)
	if meets(spans(y), spans(x)) || meetItself(spans(y)) {
		t.Error("Put shares memory")
	}
	// A list without an element could still hold on to what it was cut from.
	for _, c := range []api.Tree{z.Kids[0].Kids[2], y.Kids[0].Kids[2]} {
		if unsafe.SliceData(c.Data) == unsafe.SliceData(data) || unsafe.SliceData(c.Names) == unsafe.SliceData(kids[2].Names) && c.Names != nil || unsafe.SliceData(c.Kids) == unsafe.SliceData(kids[2].Kids) && c.Kids != nil {
			t.Error("an empty list is one that was handed in")
		}
	}
}

// P4.5, W7: what was answered stays, whatever becomes of what was handed in.
func TestAnswersStay(t *testing.T) {
	x, y := house(), dir("n", file("new"))
	whole, _ := tree.At(x, "")
	put := mustPut(t, x, "a/empty", y)
	files := tree.Files(x)
	wasWhole, wasPut, wasFiles := told(whole), told(put), fmt.Sprint(files)
	x.Kids[0].Kids[0].Data[0], x.Kids[0].Names[0], x.Kids[1] = 'X', "X", file("X")
	y.Kids[0].Data[0], y.Names[0] = 'X', "X"
	tree.Put(put, "a", file(""))
	if told(whole) != wasWhole || told(put) != wasPut || fmt.Sprint(files) != wasFiles {
		t.Error("what was answered changed")
	}
}

// W2, W6: several may ask one tree at one time, as it is only read.
func TestManyAskers(t *testing.T) {
	x, y := roomy(house()), roomy(dir("n", file("new")))
	want := told(mustPut(t, x, "a/n/e/w", y))
	answers := make([]string, 16)
	var group sync.WaitGroup
	for i := range answers {
		group.Go(func() {
			tree.Same(x, y)
			tree.Files(x)
			tree.At(x, "a/b")
			z, _ := tree.Put(x, "a/n/e/w", y)
			answers[i] = told(z)
		})
	}
	group.Wait()
	for _, got := range answers {
		if got != want {
			t.Errorf("Put: %s, want %s", got, want)
		}
	}
}
