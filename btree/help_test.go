package btree_test

import (
	"fmt"
	"maps"
	"math/bits"
	"math/rand/v2"
	"slices"
	"strings"
	"testing"
	"unsafe"

	"pantry/api"
	"pantry/btree"
	"pantry/fs"
)

const most = 1 << 14 // pages

// list is keys with their values.
type list map[string]string

// pair is one of them.
type pair struct{ key, value string }

// of is a list of keys, each with the next text as its value.
func of(all ...string) list {
	l := list{}
	for i := 0; i < len(all); i += 2 {
		l[all[i]] = all[i+1]
	}
	return l
}

// with is a list with one more key, or another value.
func (l list) with(key, value string) list {
	l = maps.Clone(l)
	l[key] = value
	return l
}

// keys is all of them, in order.
func (l list) keys() []string { return slices.Sorted(maps.Keys(l)) }

// from is the keys with their values that are not behind a text, in order.
func (l list) from(text string) []pair {
	var all []pair
	for _, key := range l.keys() {
		if key >= text {
			all = append(all, pair{key, l[key]})
		}
	}
	return all
}

// small tells whether P10.5 says something of the list.
func (l list) small() bool {
	for key, value := range l {
		if len(key)+len(value) > 100 {
			return false
		}
	}
	return true
}

func (l list) same(m list) bool { return maps.Equal(l, m) }

// String is short, whatever the list has.
func (l list) String() string {
	var s strings.Builder
	for _, x := range l.from("")[:min(len(l), 8)] {
		fmt.Fprintf(&s, "%.8q/%d: %.8q/%d, ", x.key, len(x.key), x.value, len(x.value))
	}
	fmt.Fprintf(&s, "%d in all", len(l))
	return s.String()
}

// disk is a FS of so much room.
func disk(t *testing.T, room int) *fs.FS {
	t.Helper()
	f, e := fs.New(room)
	if e != api.OK {
		t.Fatal(e)
	}
	return f
}

// opened is the tree b of a FS.
func opened(t *testing.T, f *fs.FS) *btree.Tree {
	t.Helper()
	x, e := btree.Open(f, "b")
	if e != api.OK || x == nil {
		t.Fatalf("Open: %v, %v", x, e)
	}
	return x
}

// made is a tree of a new FS with keys that last.
func made(t *testing.T, room int, l list) (*fs.FS, *btree.Tree) {
	t.Helper()
	f := disk(t, room)
	x := opened(t, f)
	puts(t, x, l)
	ok(t, x.Commit())
	return f, x
}

// ok asks for no error.
func ok(t *testing.T, e api.Errno) {
	t.Helper()
	if e != api.OK {
		t.Fatal(e)
	}
}

// answers asks for an error.
func answers(t *testing.T, got, want api.Errno) {
	t.Helper()
	if got != want {
		t.Errorf("%v, want %v", got, want)
	}
}

// put gives a key a value.
func put(t *testing.T, x *btree.Tree, key, value string) {
	t.Helper()
	if e := x.Put(key, []byte(value)); e != api.OK {
		t.Fatalf("Put(%.20q, %d bytes): %v", key, len(value), e)
	}
}

// puts gives keys their values.
func puts(t *testing.T, x *btree.Tree, l list) {
	t.Helper()
	for _, key := range l.keys() {
		put(t, x, key, l[key])
	}
}

// has asks for a key's value.
func has(t *testing.T, x *btree.Tree, key, want string) {
	t.Helper()
	if b, e := x.Get(key); string(b) != want || e != api.OK {
		t.Errorf("Get(%.20q): %.20q of %d bytes, %v, want %.20q of %d bytes", key, b, len(b), e, want, len(want))
	}
}

// lacks asks for no value.
func lacks(t *testing.T, x *btree.Tree, key string, want api.Errno) {
	t.Helper()
	if b, e := x.Get(key); b != nil || e != want {
		t.Errorf("Get(%.20q): %.20q, %v", key, b, e)
	}
}

// ranged is what Range hands on.
func ranged(x *btree.Tree, from string) []pair {
	var all []pair
	for key, b := range x.Range(from) {
		all = append(all, pair{key, string(b)})
	}
	return all
}

// told is what a tree tells, in its shape.
func told(t *testing.T, x *btree.Tree) list {
	t.Helper()
	l := listed(t, x)
	shaped(t, x, l)
	return l
}

// listed is what a tree tells.
func listed(t *testing.T, x *btree.Tree) list {
	t.Helper()
	l := list{}
	all := ranged(x, "")
	for i, y := range all {
		if i > 0 && y.key <= all[i-1].key {
			t.Errorf("%.20q behind %.20q", y.key, all[i-1].key)
		}
		l[y.key] = y.value
	}
	if x.Len() != len(all) {
		t.Errorf("%d keys, and it tells %d", len(all), x.Len())
	}
	return l
}

// shaped asks for the shape of a tree that has a list.
func shaped(t *testing.T, x *btree.Tree, l list) {
	t.Helper()
	deep, pages := x.Shape()
	if (deep == 0) != (len(l) == 0) || deep < 0 || pages > most || len(l) > 0 && pages < deep {
		t.Errorf("%d deep, %d pages, with %d keys", deep, pages, len(l))
	}
	if l.small() && (deep > bits.Len(uint(len(l)))+2 || pages > len(l)+10) {
		t.Errorf("%d deep, %d pages, with %d small keys", deep, pages, len(l))
	}
	if fault := x.Fault(); fault != "" {
		t.Error(fault)
	}
}

// tells asks a tree for all that it has.
func tells(t *testing.T, x *btree.Tree, want list) {
	t.Helper()
	if got := told(t, x); !got.same(want) {
		t.Errorf("it tells %v, want %v", got, want)
	}
	for i, key := range want.keys() {
		if i%(1+len(want)/50) == 0 {
			has(t, x, key, want[key])
		}
	}
}

// lasts asks what is told of a FS behind each crash; the FS stays as it is.
func lasts(t *testing.T, f *fs.FS, want list) {
	t.Helper()
	for _, keep := range keeps(f, 9) {
		tells(t, opened(t, crashed(f, keep)), want)
	}
}

// keeps is how many things crashes leave: each number, or some ones if there were more than that.
func keeps(f *fs.FS, most int) []int {
	all := f.Pending()
	var l []int
	for keep := range all + 2 {
		if all < most || keep < most/3 || keep > all-most/3 || keep%(all/(most/3)) == 0 {
			l = append(l, keep)
		}
	}
	return l
}

// crashed is a copy of a FS behind a crash.
func crashed(f *fs.FS, keep int) *fs.FS {
	c := f.Copy()
	c.Crash(keep)
	return c
}

// state is all files that a FS has, as a text.
func state(f *fs.FS) string {
	var b strings.Builder
	for _, name := range f.Names("") {
		data, _ := f.Read(name)
		fmt.Fprintf(&b, "%q of %d bytes: %s\n", name, len(data), data)
	}
	return b.String()
}

// sized is so many bytes, each one another than those beside it.
func sized(n int) string {
	b := make([]byte, n)
	for i := range b {
		b[i] = byte('a' + i%23 + i/500%3)
	}
	return string(b)
}

// key is one of so many bytes; those of greater numbers are greater.
func key(n, size int) string { return fmt.Sprintf("%06d", n) + sized(size-6) }

// many is so many keys of so many bytes with values of so many bytes.
func many(n, keys, values int) list {
	l := list{}
	for i := range n {
		l[key(i, keys)] = sized(values)
	}
	return l
}

// orders is ways to go through so many numbers.
func orders(n int) map[string][]int {
	rise := make([]int, n)
	for i := range rise {
		rise[i] = i
	}
	fall := slices.Clone(rise)
	slices.Reverse(fall)
	var ends, middle []int
	for i := range n {
		if i%2 == 0 {
			ends = append(ends, i/2)
		} else {
			ends = append(ends, n-1-i/2)
		}
	}
	middle = slices.Clone(ends)
	slices.Reverse(middle)
	return map[string][]int{"rising": rise, "falling": fall, "mixed": dice().Perm(n), "from both ends": ends, "from the middle": middle}
}

func dice() *rand.Rand { return rand.New(rand.NewPCG(10, 1)) }

// rounds is how often something is tried: a tenth of that, if it is to be short.
func rounds(n int) int {
	if testing.Short() {
		return n / 10
	}
	return n
}

// borrowed is a text whose bytes may be changed behind it.
func borrowed(s string) (string, []byte) {
	b := []byte(s)
	return unsafe.String(unsafe.SliceData(b), len(b)), b
}

// span is some memory. It is kept: what nobody has any more could be used anew.
type span struct {
	from, to uintptr
	kept     unsafe.Pointer
}

// spanAt is so much memory from a place on.
func spanAt(p *byte, size int) span {
	from := uintptr(unsafe.Pointer(p))
	return span{from, from + uintptr(size), unsafe.Pointer(p)}
}

// spanOf is the memory of bytes, with the room behind their end.
func spanOf(b []byte) span { return spanAt(unsafe.SliceData(b), cap(b)) }

// spanOfText is the memory of a text.
func spanOfText(s string) span { return spanAt(unsafe.StringData(s), len(s)) }

// meet tells whether two of some memory share any.
func meet(all []span) bool {
	all = slices.DeleteFunc(all, func(s span) bool { return s.from == s.to })
	slices.SortFunc(all, func(a, b span) int {
		if a.from < b.from {
			return -1
		}
		return 1
	})
	for i := 1; i < len(all); i++ {
		if all[i].from < all[i-1].to {
			return true
		}
	}
	return false
}
