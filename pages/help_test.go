package pages_test

import (
	"fmt"
	"math/rand/v2"
	"slices"
	"strings"
	"testing"
	"unsafe"

	"pantry/api"
	"pantry/fs"
	"pantry/journal"
	"pantry/pages"
)

const most = 1 << 14 // pages

// leaf is a page as it is told.
type leaf struct {
	taken bool
	data  string
}

// book is what a pager tells, page by page.
type book []leaf

// of is a book of pages that are taken.
func of(pages ...string) book {
	var b book
	for _, data := range pages {
		b = append(b, leaf{true, data})
	}
	return b
}

// with is a book with one page more, or another one in its place.
func (b book) with(n int, x leaf) book {
	b = slices.Clone(b)
	for len(b) <= n {
		b = append(b, leaf{})
	}
	b[n] = x
	return b
}

// put is a book with a page that is taken.
func (b book) put(n int, data string) book { return b.with(n, leaf{true, data}) }

// free is how many pages are.
func (b book) free() int {
	sum := 0
	for _, x := range b {
		if !x.taken {
			sum++
		}
	}
	return sum
}

// least is the number that New answers.
func (b book) least() int {
	n := slices.Index(b, leaf{})
	if n < 0 {
		return len(b)
	}
	return n
}

func (b book) same(c book) bool { return slices.Equal(b, c) }

// String is short, whatever the book has.
func (b book) String() string {
	var s strings.Builder
	for n, x := range b[:min(len(b), 8)] {
		if x.taken {
			fmt.Fprintf(&s, "%d: %.8q/%d, ", n, x.data, len(x.data))
		} else {
			fmt.Fprintf(&s, "%d: free, ", n)
		}
	}
	fmt.Fprintf(&s, "%d in all, %d free", len(b), b.free())
	return s.String()
}

// disk is a FS of so much room.
func disk(t *testing.T, room int) *fs.FS {
	t.Helper()
	f, e := fs.New(room)
	if e != api.OK {
		t.Fatal(e)
	}
	return f
}

// opened is the pager p of a FS.
func opened(t *testing.T, f *fs.FS) *pages.Pager {
	t.Helper()
	p, e := pages.Open(f, "p")
	if e != api.OK || p == nil {
		t.Fatalf("Open: %v, %v", p, e)
	}
	return p
}

// ok asks for no error.
func ok(t *testing.T, e api.Errno) {
	t.Helper()
	if e != api.OK {
		t.Fatal(e)
	}
}

// answers asks for an error.
func answers(t *testing.T, got, want api.Errno) {
	t.Helper()
	if got != want {
		t.Errorf("%v, want %v", got, want)
	}
}

// taken asks for the number of a new page.
func taken(t *testing.T, p *pages.Pager, want int) {
	t.Helper()
	if n, e := p.New(); n != want || e != api.OK {
		t.Errorf("New: %d, %v, want %d", n, e, want)
	}
}

// has asks for a page.
func has(t *testing.T, p *pages.Pager, n int, want string) {
	t.Helper()
	if b, e := p.Get(n); string(b) != want || e != api.OK {
		t.Errorf("page %d: %.20q of %d bytes, %v, want %.20q", n, b, len(b), e, want)
	}
}

// lacks asks for no page.
func lacks(t *testing.T, p *pages.Pager, n int) {
	t.Helper()
	if b, e := p.Get(n); b != nil || e != api.ErrNone {
		t.Errorf("page %d: %.20q, %v", n, b, e)
	}
}

// counts asks for the answers of Count and Dirty.
func counts(t *testing.T, p *pages.Pager, all, free, dirty int) {
	t.Helper()
	a, f := p.Count()
	if a != all || f != free || p.Dirty() != dirty {
		t.Errorf("%d pages, %d free, %d dirty, want %d, %d, %d", a, f, p.Dirty(), all, free, dirty)
	}
}

// fill takes pages with these bytes.
func fill(t *testing.T, p *pages.Pager, all ...string) {
	t.Helper()
	for _, data := range all {
		n, e := p.New()
		ok(t, e)
		ok(t, p.Put(n, []byte(data)))
	}
}

// filled is a pager of a new FS with pages that last.
func filled(t *testing.T, room int, all ...string) (*fs.FS, *pages.Pager) {
	t.Helper()
	f := disk(t, room)
	p := opened(t, f)
	fill(t, p, all...)
	ok(t, p.Commit())
	return f, p
}

// told is what a pager tells.
func told(t *testing.T, p *pages.Pager) book {
	t.Helper()
	all, free := p.Count()
	b := make(book, all)
	for n := range b {
		data, e := p.Get(n)
		if e != api.OK && (e != api.ErrNone || data != nil) {
			t.Fatalf("Get(%d): %q, %v", n, data, e)
		}
		b[n] = leaf{e == api.OK, string(data)}
	}
	if b.free() != free {
		t.Errorf("%d pages are free, and it tells %d", b.free(), free)
	}
	lacks(t, p, all)
	lacks(t, p, -1)
	return b
}

// tells asks a pager for all that it has.
func tells(t *testing.T, p *pages.Pager, want book) {
	t.Helper()
	if got := told(t, p); !got.same(want) {
		t.Errorf("it tells %v, want %v", got, want)
	}
}

// lasts asks what is told of a FS behind each crash; the FS stays as it is.
func lasts(t *testing.T, f *fs.FS, want book) {
	t.Helper()
	for _, keep := range keeps(f, 12) {
		p := opened(t, crashed(f, keep))
		tells(t, p, want)
		if p.Dirty() != 0 {
			t.Errorf("%d pages are dirty", p.Dirty())
		}
	}
}

// keeps is how many things crashes leave: each number, or some ones if there were more than that.
func keeps(f *fs.FS, most int) []int {
	all := f.Pending()
	var l []int
	for keep := range all + 2 {
		if all < most || keep < most/3 || keep > all-most/3 || keep%(all/(most/3)) == 0 {
			l = append(l, keep)
		}
	}
	return l
}

// crashed is a copy of a FS behind a crash.
func crashed(f *fs.FS, keep int) *fs.FS {
	c := f.Copy()
	c.Crash(keep)
	return c
}

// state is all files that a FS has, as a text.
func state(f *fs.FS) string {
	var b strings.Builder
	for _, name := range f.Names("") {
		data, _ := f.Read(name)
		fmt.Fprintf(&b, "%q of %d bytes: %s\n", name, len(data), data)
	}
	return b.String()
}

// sized is so many bytes.
func sized(n int) string { return strings.Repeat("s", n) }

// many is pages of so many bytes, no two alike as far as they have room to tell their numbers.
func many(n, size int) []string {
	all := make([]string, n)
	for i := range all {
		s := fmt.Sprint(i, "/")
		all[i] = (s + sized(max(size-len(s), 0)))[:size]
	}
	return all
}

func dice() *rand.Rand { return rand.New(rand.NewPCG(9, 1)) }

// rounds is how often something is tried: a tenth of that, if it is to be short.
func rounds(n int) int {
	if testing.Short() {
		return n / 10
	}
	return n
}

// borrowed is a text whose bytes may be changed behind it.
func borrowed(s string) (string, []byte) {
	b := []byte(s)
	return unsafe.String(unsafe.SliceData(b), len(b)), b
}

// span is some memory.
type span struct{ from, to uintptr }

// spanOf is the memory of bytes, with the room behind their end.
func spanOf(b []byte) span {
	from := uintptr(unsafe.Pointer(unsafe.SliceData(b)))
	return span{from, from + uintptr(cap(b))}
}

// meet tells whether two of some memory share any.
func meet(all []span) bool {
	all = slices.DeleteFunc(all, func(s span) bool { return s.from == s.to })
	slices.SortFunc(all, func(a, b span) int {
		if a.from < b.from {
			return -1
		}
		return 1
	})
	for i := 1; i < len(all); i++ {
		if all[i].from < all[i-1].to {
			return true
		}
	}
	return false
}

// writeLog commits records to the journal of the pager p.
func writeLog(t *testing.T, f *fs.FS, records []string) {
	t.Helper()
	j, e := journal.Open(f, "p")
	ok(t, e)
	for _, r := range records {
		ok(t, j.Add([]byte(r)))
	}
	ok(t, j.Commit())
}
