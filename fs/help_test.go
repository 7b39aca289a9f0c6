package fs_test

import (
	"fmt"
	"math/rand/v2"
	"slices"
	"strings"
	"testing"
	"unsafe"

	"pantry/api"
	"pantry/fs"
)

// Kinds of calls that the fuse counts.
const (
	doWrite = iota
	doAppend
	doLink
	doRename
	doRemove
	doSync
	calls
)

// call is one of them; old is for Link and Rename alone, data for Write and Append.
type call struct {
	kind      int
	old, name string
	data      string
}

func write(name, data string) call   { return call{kind: doWrite, name: name, data: data} }
func appends(name, data string) call { return call{kind: doAppend, name: name, data: data} }
func link(old, name string) call     { return call{kind: doLink, old: old, name: name} }
func rename(old, name string) call   { return call{kind: doRename, old: old, name: name} }
func remove(name string) call        { return call{kind: doRemove, name: name} }
func syncs() call                    { return call{kind: doSync} }

// String is short, whatever the call has.
func (c call) String() string {
	kind := []string{"Write", "Append", "Link", "Rename", "Remove", "Sync"}[c.kind]
	return fmt.Sprintf("%s(%.20q, %.20q, %d bytes)", kind, c.old, c.name, len(c.data))
}

// done is what the FS answers.
func (c call) done(f *fs.FS) api.Errno {
	switch c.kind {
	case doWrite:
		return f.Write(c.name, []byte(c.data))
	case doAppend:
		return f.Append(c.name, []byte(c.data))
	case doLink:
		return f.Link(c.old, c.name)
	case doRename:
		return f.Rename(c.old, c.name)
	case doRemove:
		return f.Remove(c.name)
	}
	return f.Sync()
}

// node is a file with all its names, rising.
type node struct {
	names []string
	data  string
}

// view is what is there; it is never changed.
type view []node

// of is the place of the file that has the name, or -1.
func (v view) of(name string) int {
	return slices.IndexFunc(v, func(n node) bool { return slices.Contains(n.names, name) })
}

func (v view) names() []string {
	var all []string
	for _, n := range v {
		all = append(all, n.names...)
	}
	slices.Sort(all)
	return all
}

func (v view) used() int {
	sum := 0
	for _, n := range v {
		sum += len(n.data)
	}
	return sum
}

// without is all but a name, and but a file that has no other one.
func (v view) without(name string) view {
	var rest view
	for _, n := range v {
		left := slices.DeleteFunc(slices.Clone(n.names), func(s string) bool { return s == name })
		if len(left) > 0 {
			rest = append(rest, node{left, n.data})
		}
	}
	return rest
}

// with is all, and one more file.
func (v view) with(n node) view { return append(slices.Clone(v), n) }

// named is all, with one more name for the file at a place.
func (v view) named(at int, name string) view {
	all := slices.Clone(v)
	all[at].names = append(slices.Clone(all[at].names), name)
	slices.Sort(all[at].names)
	return all
}

// next is what is there behind a call, or its error; names are not asked.
func (v view) next(c call, room int) (view, api.Errno) {
	at, old := v.of(c.name), v.of(c.old)
	switch c.kind {
	case doWrite:
		if len(c.data) > 1<<20 {
			return nil, api.ErrLong
		}
		w := v.without(c.name).with(node{[]string{c.name}, c.data})
		return w, fits(w, room)
	case doAppend:
		if at < 0 {
			return nil, api.ErrNone
		}
		if len(v[at].data)+len(c.data) > 1<<20 {
			return nil, api.ErrLong
		}
		w := slices.Clone(v)
		w[at].data += c.data
		return w, fits(w, room)
	case doLink:
		if old < 0 {
			return nil, api.ErrNone
		}
		if at >= 0 {
			return nil, api.ErrHas
		}
		w := v.named(old, c.name)
		return w, fits(w, room)
	case doRename:
		if old < 0 {
			return nil, api.ErrNone
		}
		if c.old == c.name {
			return v, api.OK
		}
		w := v.without(c.name)
		if at == old {
			return v.without(c.old), api.OK
		}
		return w.named(w.of(c.old), c.name).without(c.old), api.OK
	}
	if at < 0 {
		return nil, api.ErrNone
	}
	return v.without(c.name), api.OK
}

func fits(v view, room int) api.Errno {
	if len(v.names()) > 1<<14 || v.used() > room {
		return api.ErrFull
	}
	return api.OK
}

// model is what a FS is to be: what was there behind each thing, from what lasts on.
type model struct {
	room  int
	views []view
	fuse  int // below 0: none
}

func newModel(room int) *model { return &model{room, []view{nil}, -1} }

func (m *model) now() view { return m.views[len(m.views)-1] }

func (m *model) pending() int { return len(m.views) - 1 }

// done is what a call is to answer.
func (m *model) done(c call) api.Errno {
	if m.fuse == 0 {
		return api.ErrDead
	}
	if c.kind == doSync {
		m.views = []view{m.now()}
		m.fuse--
		return api.OK
	}
	twoNames := c.kind == doLink || c.kind == doRename
	if !isName(c.name) || twoNames && !isName(c.old) {
		return api.ErrName
	}
	v, e := m.now().next(c, m.room)
	if e != api.OK {
		return e
	}
	if m.pending() == 1<<14 {
		m.views = []view{m.now()}
	}
	m.views = append(m.views, v)
	m.fuse--
	return api.OK
}

func isName(s string) bool { return len(s) >= 1 && len(s) <= 300 }

func (m *model) crash(keep int) {
	keep = min(max(keep, 0), m.pending())
	m.views, m.fuse = []view{m.views[keep]}, -1
}

func (m *model) copied() *model { return &model{m.room, slices.Clone(m.views), -1} }

// made is a FS of so much room.
func made(t *testing.T, room int) *fs.FS {
	t.Helper()
	f, e := fs.New(room)
	if e != api.OK || f == nil {
		t.Fatalf("New(%d): %v", room, e)
	}
	return f
}

// run does calls, none of which may err.
func run(t *testing.T, f *fs.FS, all ...call) {
	t.Helper()
	for _, c := range all {
		if e := c.done(f); e != api.OK {
			t.Fatalf("%v: %v", c, e)
		}
	}
}

// answers asks a call for its error.
func answers(t *testing.T, f *fs.FS, c call, want api.Errno) {
	t.Helper()
	if got := c.done(f); got != want {
		t.Errorf("%v: %v, want %v", c, got, want)
	}
}

// has asks a FS for all that is there: each file with its names, and how many things are pending.
func has(t *testing.T, f *fs.FS, pending int, want view) {
	t.Helper()
	if got := told(f); got != toldView(want, pending) {
		t.Errorf("there is %s, want %s", got, toldView(want, pending))
	}
}

// told is all that a FS tells, in words.
func told(f *fs.FS) string {
	var b strings.Builder
	names := f.Names("")
	for _, name := range names {
		data, e := f.Read(name)
		first, n := f.Node(name)
		fmt.Fprintf(&b, "%q %v %q %q %d\n", name, e, data, first, n)
	}
	fmt.Fprintf(&b, "%d names, used %d, pending %d", len(names), f.Used(), f.Pending())
	return b.String()
}

// toldView is what a FS is to tell of a view.
func toldView(v view, pending int) string {
	var b strings.Builder
	names := v.names()
	for _, name := range names {
		n := v[v.of(name)]
		fmt.Fprintf(&b, "%q %v %q %q %d\n", name, api.OK, n.data, slices.Min(n.names), len(n.names))
	}
	fmt.Fprintf(&b, "%d names, used %d, pending %d", len(names), v.used(), pending)
	return b.String()
}

// file is a node of a view.
func file(data string, names ...string) node { return node{names, data} }

// same asks a FS for what its model tells.
func same(t *testing.T, f *fs.FS, m *model) bool {
	t.Helper()
	got, want := told(f), toldView(m.now(), m.pending())
	if got != want {
		t.Errorf("there is %s, want %s", got, want)
	}
	return got == want
}

// sameBehindCrashes asks for what is there behind all crashes, of copies.
func sameBehindCrashes(t *testing.T, f *fs.FS, m *model) bool {
	t.Helper()
	for keep := -1; keep <= m.pending()+1; keep++ {
		g, n := f.Copy(), m.copied()
		g.Crash(keep)
		n.crash(keep)
		if !same(t, g, n) {
			t.Errorf("behind Crash(%d) of %d", keep, m.pending())
			return false
		}
	}
	return true
}

// span is some memory.
type span struct{ from, to uintptr }

func spanOf(b []byte) span {
	from := uintptr(unsafe.Pointer(unsafe.SliceData(b)))
	return span{from, from + uintptr(cap(b))}
}

func textSpan(s string) span {
	from := uintptr(unsafe.Pointer(unsafe.StringData(s)))
	return span{from, from + uintptr(len(s))}
}

func listSpan(l []string) span {
	from := uintptr(unsafe.Pointer(unsafe.SliceData(l)))
	return span{from, from + uintptr(cap(l))*unsafe.Sizeof("")}
}

// meetItself tells whether two of some memory share any.
func meetItself(all []span) bool {
	all = slices.DeleteFunc(slices.Clone(all), func(s span) bool { return s.from == s.to })
	slices.SortFunc(all, func(a, b span) int {
		if a.from < b.from {
			return -1
		}
		return 1
	})
	for i := 1; i < len(all); i++ {
		if all[i].from < all[i-1].to {
			return true
		}
	}
	return false
}

// room is a copy of bytes with something behind their end.
func room(s, behind string) []byte { return slices.Clip([]byte(s + behind))[:len(s)] }

// rounds is how often something is tried: a tenth of that, if it is to be short.
func rounds(n int) int {
	if testing.Short() {
		return n / 10
	}
	return n
}

func dice() *rand.Rand { return rand.New(rand.NewPCG(7, 1)) }

// someCall is one that names few files, so that they meet.
func someCall(r *rand.Rand) call {
	name := func() string {
		if r.IntN(40) == 0 {
			return []string{"", strings.Repeat("n", 301)}[r.IntN(2)]
		}
		return []string{"a", "b", "c", "aa", "ab", "a/", "\x00", "\xff"}[r.IntN(8)]
	}
	data := strings.Repeat(string(rune('0'+r.IntN(10))), r.IntN(7))
	return call{r.IntN(calls), name(), name(), data}
}
