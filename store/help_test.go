package store_test

import (
	"fmt"
	"maps"
	"math/rand/v2"
	"slices"
	"strings"
	"testing"
	"unsafe"

	"pantry/api"
	"pantry/digest"
	"pantry/fs"
	"pantry/nar"
	"pantry/path"
	"pantry/store"
	"pantry/tree"
)

const (
	maxPlace = 180
	maxSigs  = 64
	maxSig   = 1000
	room     = 1 << 26
)

// entry is what a directory has under a name.
type entry struct {
	name string
	kid  api.Tree
}

func file(data string) api.Tree { return api.Tree{Kind: api.File, Data: []byte(data)} }

func exec(data string) api.Tree { return api.Tree{Kind: api.File, Exec: true, Data: []byte(data)} }

func link(to string) api.Tree { return api.Tree{Kind: api.Link, Data: []byte(to)} }

func dir(l ...entry) api.Tree {
	t := api.Tree{Kind: api.Dir}
	slices.SortFunc(l, func(a, b entry) int { return strings.Compare(a.name, b.name) })
	for _, x := range l {
		t.Names, t.Kids = append(t.Names, x.name), append(t.Kids, x.kid)
	}
	return t
}

// two is a directory of two Files.
func two(a, b string) api.Tree { return dir(entry{"a", file(a)}, entry{"b", file(b)}) }

// at is a tree that has another one at a place, and nothing else.
func at(place string, x api.Tree) api.Tree {
	t, e := tree.Put(api.Tree{Kind: api.Dir}, place, x)
	if e != api.OK {
		panic(e)
	}
	return t
}

// deep is a tree with so many nodes below one another.
func deep(n int, last api.Tree) api.Tree {
	for range n - 1 {
		last = dir(entry{"d", last})
	}
	return last
}

// placed is a tree with a File at a place of so many bytes.
func placed(n int) api.Tree {
	return at(strings.Repeat("m", 100)+"/"+strings.Repeat("n", n-101), file("placed"))
}

// bony is a tree with a skeleton of so many bytes, a multiple of eight, and with one File.
func bony(n int) api.Tree {
	t := dir(entry{"a", file("bony")})
	left := n - len(skeleton(t))
	beside := len(skeleton(dir(entry{"l000000", link("12345678")}))) - len(skeleton(dir())) - 8
	for left > 0 {
		to := min(1000, left-beside)
		if rest := left - beside - to; rest > 0 && rest < beside+8 {
			to -= beside + 8
		}
		t.Names = append(t.Names, fmt.Sprintf("l%06d", len(t.Names)))
		t.Kids = append(t.Kids, link(strings.Repeat("x", to)))
		left -= beside + to
	}
	return t
}

// bare is a tree in which no File has Data.
func bare(t api.Tree) api.Tree {
	if t.Kind == api.File {
		t.Data = nil
	}
	t.Kids = slices.Clone(t.Kids)
	for i := range t.Kids {
		t.Kids[i] = bare(t.Kids[i])
	}
	return t
}

// skeleton is the bytes of that.
func skeleton(t api.Tree) []byte {
	b, e := nar.Encode(bare(t))
	if e != api.OK {
		panic(e)
	}
	return b
}

func skeletonName(p api.Path) string { return "t/" + string(p) }

func dataName(p api.Path, place string) string { return "s/" + string(p) + "/" + place }

// lies is the names of the files of a path in the order in which they are written.
func lies(p api.Path, t api.Tree) []string {
	var l []string
	for _, place := range tree.Files(t) {
		l = append(l, dataName(p, place))
	}
	return append(l, skeletonName(p))
}

// data is what a tree's File has.
func data(t *testing.T, x api.Tree, place string) string {
	t.Helper()
	f, e := tree.At(x, place)
	ok(t, e)
	return string(f.Data)
}

// shape is a tree with a name for it.
type shape struct {
	name string
	tree api.Tree
}

// shapes is trees of all kinds.
func shapes() []shape {
	return []shape{
		{"file", file("x")},
		{"exec", exec("x")},
		{"empty-file", file("")},
		{"empty-exec", exec("")},
		{"long-file", file(strings.Repeat("y", api.MaxFile))},
		{"link", link("/a/b")},
		{"long-link", link(strings.Repeat("l", 1000))},
		{"empty-dir", dir()},
		{"dirs", dir(entry{"a", dir()}, entry{"b", dir(entry{"c", dir()})})},
		{"two", two("x", "x")},
		{"all", dir(entry{"d", two("1", "2")}, entry{"e", exec("e")}, entry{"f", file("")}, entry{"l", link("f")}, entry{"n", dir()})},
		{"by-place", dir(entry{"a", dir(entry{"b", file("2")})}, entry{"a.c", file("1")}, entry{"a0", file("3")})},
		{"bytes", dir(entry{"\x01", file("1")}, entry{"\n", file("\x00")}, entry{" ", file("\xff")}, entry{"\xff", dir(entry{"\x7f", exec("é")})}, entry{"...", file("")})},
		{"deep", deep(api.MaxDeep, file("deep"))},
		{"deep-dir", deep(api.MaxDeep, dir())},
		{"placed", placed(maxPlace)},
		{"long-places", at(strings.Repeat("m", 100)+"/"+strings.Repeat("n", 100)+"/"+strings.Repeat("o", 100), link("x"))},
		{"many", many(300)},
	}
}

// many is a tree of so many Files.
func many(n int) api.Tree {
	t := api.Tree{Kind: api.Dir}
	for i := range n {
		t.Names = append(t.Names, fmt.Sprintf("f%05d", i))
		t.Kids = append(t.Kids, file(fmt.Sprint(i%7)))
	}
	return t
}

// wrong is a tree that Check refuses, with its error.
type wrong struct {
	tree api.Tree
	e    api.Errno
}

func wrongs() []wrong {
	return []wrong{
		{api.Tree{}, api.ErrForm},
		{api.Tree{Kind: 4}, api.ErrForm},
		{api.Tree{Kind: api.Link}, api.ErrForm},
		{api.Tree{Kind: api.File, Names: []string{"a"}}, api.ErrForm},
		{api.Tree{Kind: api.Dir, Names: []string{"a"}}, api.ErrForm},
		{api.Tree{Kind: api.Dir, Names: []string{"b", "a"}, Kids: []api.Tree{file(""), file("")}}, api.ErrName},
		{dir(entry{"a/b", file("")}), api.ErrName},
		{dir(entry{strings.Repeat("n", 101), file("")}), api.ErrName},
		{file(strings.Repeat("x", api.MaxFile+1)), api.ErrLong},
		{deep(api.MaxDeep+1, file("")), api.ErrLong},
	}
}

// sourceOf is the path that a tree's own bytes, a name and refs make.
func sourceOf(t *testing.T, x api.Tree, name string, refs ...api.Path) api.Path {
	t.Helper()
	h, _, e := nar.Hash(x)
	ok(t, e)
	p, e := path.Source(h, refs, name)
	ok(t, e)
	return p
}

// textOf is the path that a text, a name and refs make.
func textOf(t *testing.T, text, name string, refs ...api.Path) api.Path {
	t.Helper()
	p, e := path.Text(digest.Sum([]byte(text)), refs, name)
	ok(t, e)
	return p
}

// told is a path of that name.
func told(name string) api.Path {
	p, e := path.Make("told", digest.Sum([]byte(name)), name)
	if e != api.OK {
		panic(name)
	}
	return p
}

// info is what is registered of a path that has a tree.
func info(p api.Path, x api.Tree, refs ...api.Path) api.Info {
	h, n, _ := nar.Hash(x)
	return api.Info{Path: p, Hash: h, Size: n, Refs: refs}
}

// rising is a list in order, each once.
func rising[T ~string](l ...T) []T {
	l = slices.Clone(l)
	slices.Sort(l)
	return slices.Compact(l)
}

// model is what a store has, in plain maps.
type model map[api.Path]kept

// kept is what is registered of a path, and its tree.
type kept struct {
	api.Info
	tree api.Tree
}

// with is a model that has one path more.
func (m model) with(x api.Info, t api.Tree) model {
	m = maps.Clone(m)
	if m == nil {
		m = model{}
	}
	x.Refs, x.Sigs = rising(x.Refs...), rising(x.Sigs...)
	m[x.Path] = kept{x, t}
	return m
}

// without is a model that has some paths less.
func (m model) without(l ...api.Path) model {
	m = maps.Clone(m)
	for _, p := range l {
		delete(m, p)
	}
	return m
}

// all is the valid paths, rising.
func (m model) all() []api.Path { return slices.Sorted(maps.Keys(m)) }

// files is all files that lie in the file system for it, by their names.
func (m model) files(t *testing.T) map[string]string {
	t.Helper()
	all := map[string]string{}
	for p, x := range m {
		for _, place := range tree.Files(x.tree) {
			all[dataName(p, place)] = data(t, x.tree, place)
		}
		all[skeletonName(p)] = string(skeleton(x.tree))
	}
	return all
}

// same tells whether two Infos tell the same; lists without an element are the same.
func same(a, b api.Info) bool {
	return a.Path == b.Path && a.Hash == b.Hash && a.Size == b.Size && a.Deriver == b.Deriver && slices.Equal(a.Refs, b.Refs) && slices.Equal(a.Sigs, b.Sigs)
}

// has asks a store for all that it is to have.
func has(t *testing.T, s *store.Store, want model) {
	t.Helper()
	if got := s.DB().All(); !slices.Equal(got, want.all()) {
		t.Fatalf("valid are %q, want %q", got, want.all())
	}
	for p, x := range want {
		if i, e := s.DB().Get(p); e != api.OK || !same(i, x.Info) {
			t.Errorf("registered of %s is %v, %v, want %v", p, i, e, x.Info)
		}
		if y, e := s.Tree(p); e != api.OK || !tree.Same(x.tree, y) {
			t.Errorf("Tree(%s): %.300v, %v", p, y, e)
		}
		answers(t, s.Verify(p), api.OK)
	}
}

// holds asks a store for all that it is to have, and that nothing else lies there but what is stray.
func holds(t *testing.T, s *store.Store, want model, stray ...string) {
	t.Helper()
	has(t, s, want)
	lists(t, s.Stray(), stray...)
	f := s.FS()
	files := want.files(t)
	lists(t, slices.Concat(f.Names("s/"), f.Names("t/")), rising(slices.AppendSeq(stray, maps.Keys(files))...)...)
	for name, want := range files {
		if b, e := f.Read(name); e != api.OK || string(b) != want {
			t.Errorf("%q has %d bytes, %v", name, len(b), e)
		}
	}
}

// sound asks for what holds of any store: what is valid has what was registered, and refers to what is valid.
func sound(t *testing.T, s *store.Store) {
	t.Helper()
	for _, p := range s.DB().All() {
		answers(t, s.Verify(p), api.OK)
		x, e := s.DB().Get(p)
		ok(t, e)
		for _, ref := range x.Refs {
			if _, e := s.DB().Get(ref); e != api.OK {
				t.Errorf("%s refers to %s, which is not valid", p, ref)
			}
		}
	}
}

// disk is a FS of so much room.
func disk(t *testing.T, room int) *fs.FS {
	t.Helper()
	f, e := fs.New(room)
	ok(t, e)
	return f
}

// opened is the store of a FS.
func opened(t *testing.T, f *fs.FS) *store.Store {
	t.Helper()
	s, e := store.Open(f)
	if e != api.OK || s == nil {
		t.Fatalf("Open: %v, %v", s, e)
	}
	return s
}

// empty is a store of a new FS.
func empty(t *testing.T) (*fs.FS, *store.Store) {
	t.Helper()
	f := disk(t, room)
	return f, opened(t, f)
}

// added is the path of a tree that is added.
func added(t *testing.T, s *store.Store, x api.Tree, name string, refs ...api.Path) api.Path {
	t.Helper()
	p, e := s.AddTree(x, name, refs)
	if want := sourceOf(t, x, name, refs...); e != api.OK || p != want {
		t.Fatalf("AddTree(%s): %s, %v, want %s", name, p, e, want)
	}
	return p
}

// texted is the path of a text that is added.
func texted(t *testing.T, s *store.Store, text, name string, refs ...api.Path) api.Path {
	t.Helper()
	p, e := s.AddText([]byte(text), name, refs)
	if want := textOf(t, text, name, refs...); e != api.OK || p != want {
		t.Fatalf("AddText(%s): %s, %v, want %s", name, p, e, want)
	}
	return p
}

// put writes a file behind a store's back.
func put(t *testing.T, f *fs.FS, name, data string) {
	t.Helper()
	ok(t, f.Write(name, []byte(data)))
}

// ok asks for no error.
func ok(t *testing.T, e api.Errno) {
	t.Helper()
	if e != api.OK {
		t.Fatal(e)
	}
}

// answers asks for an error.
func answers(t *testing.T, got, want api.Errno) {
	t.Helper()
	if got != want {
		t.Errorf("%v, want %v", got, want)
	}
}

// refuses asks for an error, beside which there is no path.
func refuses(t *testing.T, p api.Path, e, want api.Errno) {
	t.Helper()
	if p != "" || e != want {
		t.Errorf("%q, %v, want %v", p, e, want)
	}
}

// counts asks for a number and an error.
func counts(t *testing.T, n int, e api.Errno, want int, wantE api.Errno) {
	t.Helper()
	if n != want || e != wantE {
		t.Errorf("%d, %v, want %d, %v", n, e, want, wantE)
	}
}

// lists asks for a list.
func lists[T ~string](t *testing.T, got []T, want ...T) {
	t.Helper()
	if !slices.Equal(got, want) {
		t.Errorf("%.500q, want %.500q", got, want)
	}
}

// stays asks that something that is refused changes nothing: not the files, what is pending, nor what a Commit makes
// last.
func stays(t *testing.T, s *store.Store, refused func()) {
	t.Helper()
	f := s.FS()
	before, pending := state(f), f.Pending()
	refused()
	if state(f) != before || f.Pending() != pending {
		t.Error("the files are others")
	}
	f.Fuse(0)
	answers(t, s.DB().Commit(), api.OK)
	f.Fuse(-1)
}

// state is all files that a FS has, as a text.
func state(f *fs.FS) string {
	var b strings.Builder
	for _, name := range f.Names("") {
		data, _ := f.Read(name)
		first, n := f.Node(name)
		fmt.Fprintf(&b, "%q is %q, one of %d names, of %d bytes: %x\n", name, first, n, len(data), digest.Sum(data))
	}
	return b.String()
}

// keeps is how many things crashes leave: each number, or some ones if there were more than that.
func keeps(f *fs.FS, most int) []int {
	all := f.Pending()
	var l []int
	for keep := range all + 2 {
		if all < most || keep < most/3 || keep > all-most/3 || keep%(all/(most/3)) == 0 {
			l = append(l, keep)
		}
	}
	return l
}

// crashed is a copy of a FS behind a crash.
func crashed(f *fs.FS, keep int) *fs.FS {
	c := f.Copy()
	c.Crash(keep)
	return c
}

func dice() *rand.Rand { return rand.New(rand.NewPCG(13, 1)) }

// rounds is how often something is tried: a tenth of that, if it is to be short.
func rounds(n int) int {
	if testing.Short() {
		return n / 10
	}
	return n
}

// borrowed is a text whose bytes may be changed behind it.
func borrowed[T ~string](s T) (T, []byte) {
	b := []byte(s)
	return T(unsafe.String(unsafe.SliceData(b), len(b))), b
}

// span is some memory. It is kept: what nobody has any more could be used anew.
type span struct {
	from, to uintptr
	kept     unsafe.Pointer
}

func spanAt(p unsafe.Pointer, size uintptr) span { return span{uintptr(p), uintptr(p) + size, p} }

// spanOfText is the memory of a text.
func spanOfText[T ~string](s T) span {
	return spanAt(unsafe.Pointer(unsafe.StringData(string(s))), uintptr(len(s)))
}

// spansOfTexts is the memory of a list of texts, with the room behind its end, and of the texts.
func spansOfTexts[T ~string](l []T) []span {
	all := []span{spanAt(unsafe.Pointer(unsafe.SliceData(l)), uintptr(cap(l))*unsafe.Sizeof(""))}
	for _, s := range l {
		all = append(all, spanOfText(s))
	}
	return all
}

// spansOfTree is the memory of what a tree has.
func spansOfTree(t api.Tree) []span {
	all := spansOfTexts(t.Names)
	all = append(all, spanAt(unsafe.Pointer(unsafe.SliceData(t.Data)), uintptr(cap(t.Data))))
	all = append(all, spanAt(unsafe.Pointer(unsafe.SliceData(t.Kids)), uintptr(cap(t.Kids))*unsafe.Sizeof(t)))
	for _, kid := range t.Kids {
		all = append(all, spansOfTree(kid)...)
	}
	return all
}

// meet tells whether two of some memory share any.
func meet(all []span) bool {
	all = slices.DeleteFunc(all, func(s span) bool { return s.from == s.to })
	slices.SortFunc(all, func(a, b span) int {
		if a.from < b.from {
			return -1
		}
		return 1
	})
	for i := 1; i < len(all); i++ {
		if all[i].from < all[i-1].to {
			return true
		}
	}
	return false
}

// spoilText changes the bytes of a text that is in memory of its own.
func spoilText(s string) {
	b := unsafe.Slice(unsafe.StringData(s), len(s))
	for i := range b {
		b[i] = 'X'
	}
}
