package btree_test

import (
	"fmt"
	"math/rand/v2"
	"slices"
	"strings"
	"testing"

	"pantry/api"
	"pantry/fs"
	"pantry/pages"
)

// bound is a FS with these pages under a tree's name.
func bound(t *testing.T, all ...string) *fs.FS {
	t.Helper()
	f := disk(t, 1<<24)
	p, e := pages.Open(f, "b")
	ok(t, e)
	for i, data := range all {
		n, e := p.New()
		if n != i {
			t.Fatal(n, e)
		}
		ok(t, p.Put(n, []byte(data)))
	}
	ok(t, p.Commit())
	return f
}

// unbound is the pages of a tree.
func unbound(t *testing.T, f *fs.FS) []string {
	t.Helper()
	p, e := pages.Open(f, "b")
	ok(t, e)
	all, free := p.Count()
	if free > 0 {
		t.Fatal("there are free pages")
	}
	l := make([]string, all)
	for n := range l {
		b, e := p.Get(n)
		ok(t, e)
		l[n] = string(b)
	}
	return l
}

// goesOn asks of a FS whose pages are some that nothing panics, that what is told goes on from there, and that
// nothing but that is left of them.
func goesOn(t *testing.T, f *fs.FS) {
	t.Helper()
	before := state(f)
	x := opened(t, f)
	first := listed(t, x)
	if deep, pages := x.Shape(); len(first) == 0 && (deep != 0 || pages != 0) {
		t.Errorf("%d keys, %d deep, %d pages", len(first), deep, pages)
	}
	lacks(t, x, "none", api.ErrNone)
	answers(t, x.Delete("none"), api.ErrNone)
	answers(t, x.Commit(), api.OK)
	if state(f) != before {
		t.Error("something is changed")
	}
	put(t, x, "lost", "lost")
	x.Drop()
	left := listed(t, x)
	if !left.same(first) {
		t.Errorf("it tells %v, want %v", left, first)
	}
	for i := range 30 {
		k := fmt.Sprint(i*7%30, "/", sized(i*5))
		put(t, x, k, sized(i*i))
		left[k] = sized(i * i)
	}
	ok(t, x.Commit())
	if got := listed(t, opened(t, f)); !got.same(left) {
		t.Errorf("it tells %v, want %v", got, left)
	}
	for _, k := range left.keys() {
		has(t, x, k, left[k])
		ok(t, x.Delete(k))
	}
	empty(t, x)
}

// ref is the number of a page as two bytes.
func ref(n int) string { return string([]byte{byte(n >> 8), byte(n)}) }

// short is an entry of a leaf.
func short(key, value string) string {
	return string([]byte{byte(len(key))}) + key + string([]byte{byte(len(value))}) + value
}

// long is one whose value is elsewhere.
func long(key string, size, page int) string {
	return string([]byte{byte(len(key))}) + key + "\xff" + string([]byte{byte(size >> 16)}) + ref(size) + ref(page)
}

const leaf, inner, piece = "\x01", "\x02", "\x03"

// W1, P0.8: pages of somebody else, or damaged ones, are no tree: there is no key, and it goes on without them.
func TestForeignPages(t *testing.T) {
	a, b := leaf+short("a", "1"), leaf+short("b", "2")
	for name, all := range map[string][]string{
		"no bytes":                    {""},
		"another kind":                {"\x00" + short("a", "1")},
		"one kind more":               {"\x04" + short("a", "1")},
		"a text":                      {"of somebody else"},
		"no entry":                    {leaf},
		"no kid":                      {inner},
		"a piece":                     {piece + ref(0) + "x"},
		"a piece of nothing":          {piece},
		"a key that ends early":       {leaf + "\x05abcd"},
		"a key without a value":       {leaf + "\x01a"},
		"a value that ends early":     {leaf + "\x01a\x05abcd"},
		"an entry that ends early":    {leaf + short("a", "1") + "\x05"},
		"no key":                      {leaf + short("", "1")},
		"a key too long":              {leaf + short(sized(201), "1")},
		"a short value too long":      {leaf + short("a", sized(253))},
		"one too long for its key":    {leaf + short(sized(200), sized(54))},
		"falling":                     {leaf + short("b", "1") + short("a", "2")},
		"twice":                       {leaf + short("a", "1") + short("a", "2")},
		"twice, elsewhere":            {inner + ref(1) + ref(2), a, a},
		"falling, elsewhere":          {inner + ref(2) + ref(1), a, b},
		"its own kid":                 {inner + ref(0)},
		"its own kid, later":          {inner + ref(1) + ref(0), a},
		"a ring":                      {inner + ref(1), inner + ref(2), inner + ref(1)},
		"one kid twice":               {inner + ref(1) + ref(1), a},
		"a kid beyond":                {inner + ref(1) + ref(2), a},
		"a kid far beyond":            {inner + ref(1) + ref(65535), a},
		"half a kid":                  {inner + ref(1) + "\x00", a},
		"not as deep":                 {inner + ref(1) + ref(2), a, inner + ref(3), b},
		"deeper":                      {inner + ref(1) + ref(3), inner + ref(2), a, b},
		"a kid that is a piece":       {inner + ref(1) + ref(2), a, piece + ref(0) + "x"},
		"a kid without an entry":      {inner + ref(1) + ref(2), a, leaf},
		"a kid without a kid":         {inner + ref(1) + ref(2), inner + ref(3), inner, a},
		"a kid that is none":          {inner + ref(1) + ref(2), a, "x"},
		"one page more":               {a, b},
		"an empty page more":          {a, ""},
		"no pieces":                   {leaf + long("a", 300, 1)},
		"pieces at the root":          {leaf + long("a", 300, 0)},
		"no page for it":              {leaf + "\x01a\xff\x00\x01\x2c\x00"},
		"a piece too short":           {leaf + long("a", 300, 1), piece + ref(0) + sized(299)},
		"a piece too long":            {leaf + long("a", 300, 1), piece + ref(0) + sized(301)},
		"half a piece":                {leaf + long("a", 300, 1), piece + "\x00"},
		"a leaf for a piece":          {leaf + long("a", 300, 1), a},
		"a piece too few":             {leaf + long("a", 510, 1), piece + ref(0) + sized(509)},
		"a piece too many":            {leaf + long("a", 300, 1), piece + ref(2) + sized(300), piece + ref(0)},
		"a piece that comes again":    {leaf + long("a", 1018, 1), piece + ref(1) + sized(509)},
		"pieces uneven":               {leaf + long("a", 600, 1), piece + ref(2) + sized(300), piece + ref(0) + sized(300)},
		"a piece of two":              {leaf + long("a", 300, 1) + long("b", 300, 1), piece + ref(0) + sized(300)},
		"a long value too short":      {leaf + long("a", 252, 1), piece + ref(0) + sized(252)},
		"one that is too long by far": {leaf + long("a", 1<<24-1, 1), piece + ref(1) + sized(509)},
	} {
		f := bound(t, all...)
		if x := opened(t, f); x.Len() != 0 {
			t.Errorf("%s: it tells %v", name, listed(t, x))
		}
		goesOn(t, f)
		if t.Failed() {
			t.Fatal(name)
		}
	}
}

// tooLong is pages of a value that is longer than any by a byte, whose pieces are as they are to be.
func tooLong() []string {
	all := []string{leaf + long("a", api.MaxValue+1, 1)}
	for left := api.MaxValue + 1; left > 0; left -= 509 {
		next := ref(len(all) + 1)
		if left <= 509 {
			next = ref(0)
		}
		all = append(all, piece+next+sized(min(left, 509)))
	}
	return all
}

// P10.1, P10.2: no value has more than MaxValue bytes, wherever it comes from.
func TestForeignLongValue(t *testing.T) {
	all := tooLong()
	f := bound(t, all...)
	tells(t, opened(t, f), nil)
	goesOn(t, f)
	// With a byte less it is one.
	all[0] = leaf + long("a", api.MaxValue, 1)
	last := len(all) - 1
	all[last] = all[last][:len(all[last])-1]
	x := opened(t, bound(t, all...))
	if b, e := x.Get("a"); len(b) != api.MaxValue || e != api.OK {
		t.Error(len(b), e)
	}
}

// P0.8: pages that are a tree are one, however it came about, and however loose it is.
func TestLoosePages(t *testing.T) {
	a, b, c := leaf+short("a", "1"), leaf+short("b", "2"), leaf+short("c", "3")
	chain := []string{}
	for n := range most - 1 {
		chain = append(chain, inner+ref(n+1))
	}
	lone := []string{inner}
	want := list{}
	for n := range 255 {
		lone[0] += ref(2*n + 1)
		lone = append(lone, inner+ref(2*n+2), leaf+short(key(n, 20), ""))
		want[key(n, 20)] = ""
	}
	for _, y := range []struct {
		want list
		all  []string
	}{
		{of("a", "1"), []string{a}},
		{of("a", "1", "b", "2"), []string{leaf + short("a", "1") + short("b", "2")}},
		{of("a", "1", "b", "2", "c", "3"), []string{inner + ref(3) + ref(1) + ref(2), b, c, a}},
		{of("a", "1"), []string{inner + ref(1), a}},
		{of("a", "1", "b", "2"), []string{inner + ref(2) + ref(1), inner + ref(3), inner + ref(4), b, a}},
		{of("a", sized(253)), []string{leaf + long("a", 253, 1), piece + ref(0) + sized(253)}},
		{of("a", sized(600), "b", ""), []string{leaf + long("a", 600, 2) + short("b", ""), piece + ref(0) + sized(600)[509:], piece + ref(1) + sized(509)}},
		{of("a", "1"), append(chain, a)},
		{want, lone},
	} {
		f := bound(t, y.all...)
		x := opened(t, f)
		if got := listed(t, x); !got.same(y.want) {
			t.Errorf("it tells %v, want %v", got, y.want)
		}
		if _, pages := x.Shape(); pages != len(y.all) {
			t.Errorf("%d pages, want %d", pages, len(y.all))
		}
		for from := range y.want {
			if got := ranged(x, from); !slices.Equal(got, y.want.from(from)) {
				t.Errorf("from %q: %v", from, got)
			}
		}
		for _, k := range y.want.keys() {
			has(t, x, k, y.want[k])
			ok(t, x.Delete(k))
			lacks(t, x, k, api.ErrNone)
		}
		empty(t, x)
		goesOn(t, f)
	}
}

// row is an inner node of so many leaves from a number on, each with one key, and these leaves, from a page on.
func row(first, n, page int) (node string, leaves []string) {
	node = inner
	for i := range n {
		node += ref(page + i)
		leaves = append(leaves, leaf+short(key(first+i, 20), ""))
	}
	return node, leaves
}

// P10.2, P10.5: inner nodes that come to have room in one page together are joined, and so are their leaves that
// then follow one another; and the root that has one kid left is that kid.
func TestJoinedInnerNodes(t *testing.T) {
	left, some := row(0, 128, 3)
	right, others := row(128, 128, 131)
	f := bound(t, slices.Concat([]string{inner + ref(1) + ref(2), left, right}, some, others)...)
	x := opened(t, f)
	if deep, pages := x.Shape(); deep != 3 || pages != 259 {
		t.Fatal(deep, pages)
	}
	want := listed(t, x)
	// The leaf of the key goes, the two beside it are joined, and the two where the nodes are joined.
	ok(t, x.Delete(key(60, 20)))
	delete(want, key(60, 20))
	if deep, pages := x.Shape(); deep != 2 || pages != 254 {
		t.Errorf("%d deep, %d pages", deep, pages)
	}
	if got := listed(t, x); !got.same(want) {
		t.Errorf("it tells %v, want %v", got, want)
	}
	// Likewise where each of them has one leaf.
	x = opened(t, bound(t, inner+ref(1)+ref(2), inner+ref(3), inner+ref(4), leaf+short("a", "1"), leaf+short("b", "2")))
	put(t, x, "c", "3")
	if deep, pages := x.Shape(); deep != 1 || pages != 1 {
		t.Errorf("%d deep, %d pages", deep, pages)
	}
	tells(t, x, of("a", "1", "b", "2", "c", "3"))
}

// P10.2: the only key of the only kid of a node beside which there is a full one.
func TestLoneKid(t *testing.T) {
	for _, first := range []bool{true, false} {
		full, some := row(10, 255, 3)
		lone, one := row(0, 1, 258)
		node := inner + ref(2) + ref(1)
		if !first {
			lone, one = row(500, 1, 258)
			node = inner + ref(1) + ref(2)
		}
		x := opened(t, bound(t, slices.Concat([]string{node, full, lone}, some, one)...))
		want := listed(t, x)
		if deep, pages := x.Shape(); deep != 3 || pages != 259 || len(want) != 256 {
			t.Fatal(deep, pages, len(want))
		}
		k := want.keys()[0]
		if !first {
			k = want.keys()[255]
		}
		ok(t, x.Delete(k))
		delete(want, k)
		if deep, pages := x.Shape(); deep != 2 || pages != 256 {
			t.Errorf("%d deep, %d pages", deep, pages)
		}
		if got := listed(t, x); !got.same(want) {
			t.Errorf("it tells %v, want %v", got, want)
		}
		// Nor is there a key less than all in it.
		put(t, x, "\x00", "")
		put(t, x, "\xff", "")
		if got := listed(t, x); !got.same(want.with("\x00", "").with("\xff", "")) {
			t.Errorf("it tells %v", got)
		}
	}
}

// P10.5: a node is full with all bytes that its page has, and parts behind that.
func TestFullNodes(t *testing.T) {
	// As many leaves as the root has room for, each full with two keys: the one between them comes and goes.
	x := opened(t, disk(t, 1<<24))
	for i := range 255 {
		put(t, x, key(i, 100), sized(153))
		put(t, x, key(i, 100)+"x", sized(152))
		put(t, x, key(i, 100)+"y", sized(152))
		ok(t, x.Delete(key(i, 100)+"x"))
	}
	shaped(t, x, listed(t, x))
	if deep, pages := x.Shape(); deep != 2 || pages != 256 {
		t.Errorf("%d deep, %d pages", deep, pages)
	}
	put(t, x, "x", sized(252))
	if deep, pages := x.Shape(); deep != 3 || pages != 259 {
		t.Errorf("%d deep, %d pages", deep, pages)
	}
	ok(t, x.Delete("x"))
	if deep, pages := x.Shape(); deep != 2 || pages != 256 {
		t.Errorf("%d deep, %d pages", deep, pages)
	}
}

// W1, P0.8: pages that were changed at random make nothing panic.
func TestRandomPages(t *testing.T) {
	r := dice()
	want := many(800, 60, 30)
	for i, k := range want.keys() {
		if i%40 == 0 {
			want[k] = sized(i * 3)
		}
	}
	f, _ := made(t, 1<<24, want)
	base := unbound(t, f)
	deep, _ := opened(t, f).Shape()
	if deep < 3 {
		t.Fatal(deep)
	}
	for range rounds(600) {
		all := slices.Clone(base)
		for range 1 + r.IntN(3) {
			damage(r, all)
		}
		goesOn(t, bound(t, all...))
		if t.Failed() {
			t.FailNow()
		}
	}
}

// damage changes something of pages, more often of the first ones.
func damage(r *rand.Rand, all []string) {
	n := r.IntN(1 + r.IntN(len(all)))
	b := []byte(all[n])
	switch i := r.IntN(max(len(b), 1)); {
	case len(b) == 0:
	case r.IntN(4) == 0:
		m := r.IntN(len(all))
		all[n], all[m] = all[m], all[n]
		return
	case r.IntN(4) == 0:
		b = b[:i]
	case r.IntN(4) == 0:
		b = append(b[:i], b[min(i+2, len(b)):]...)
	default:
		b[i%min(len(b), 20)] ^= byte(1 << r.IntN(8))
		b[i] = byte(r.IntN(256))
	}
	all[n] = string(b)
}

// P10.4: over pages that are no tree, a tree that is dead stays without a key.
func TestForeignAndDead(t *testing.T) {
	f := bound(t, inner+ref(0), "x", "y")
	x := opened(t, f)
	put(t, x, "a", "1")
	f.Fuse(0)
	answers(t, x.Commit(), api.ErrDead)
	dead(t, x, of("a", "1"))
	x.Drop()
	dead(t, x, nil)
	f.Fuse(-1)
	tells(t, opened(t, f), nil)
}

// P0.8: files of somebody else under the name count as none.
func TestForeignFiles(t *testing.T) {
	f := disk(t, 1<<20)
	for _, name := range []string{"b", "b-pages-0", "b-pages-1", "b-fresh-0"} {
		ok(t, f.Write(name, []byte(strings.Repeat("of somebody else", 50))))
	}
	ok(t, f.Sync())
	tells(t, opened(t, f), nil)
	goesOn(t, f)
}
