package db_test

import (
	"fmt"
	"maps"
	"math/rand/v2"
	"reflect"
	"slices"
	"strings"
	"testing"
	"unsafe"

	"pantry/api"
	"pantry/db"
	"pantry/digest"
	"pantry/fs"
	"pantry/path"
)

const (
	maxSigs = 64
	maxSig  = 1000
)

// wrongPaths are texts that are no paths.
func wrongPaths() []api.Path {
	digits := strings.Repeat("0", 32)
	return []api.Path{"", "a", "-", "/", api.Path(digits), api.Path(digits + "-"), api.Path(digits + "a"), api.Path(digits + "-.a"), api.Path(digits + "-a/b"), api.Path(digits + "-a\x00"), api.Path("e" + digits[1:] + "-a"), api.Path("0" + digits + "-a"), api.Path(digits[1:] + "-a"), api.Path(digits + "-" + strings.Repeat("n", api.MaxName+1)), api.Path(strings.Repeat("n", 1<<16)), "\xff\x01"}
}

// wrongNames are texts that are no names.
func wrongNames() []string {
	return []string{"", ".", ".a", "a/b", "/", "a b", "a\x00", "\x00", "\xff", "é", strings.Repeat("n", api.MaxName+1), strings.Repeat("n", 1<<16)}
}

// named is a path of that name; others have other digits.
func named(s string) api.Path {
	p, e := path.Make("k", digest.Sum([]byte(s)), s)
	if e != api.OK {
		panic(s)
	}
	return p
}

// alike is a path of that name; others have the same digits.
func alike(s string) api.Path { return api.Path(strings.Repeat("7", 32) + "-" + s) }

// long is a path with a name that is as long as may be; those of greater numbers are greater.
func long(n int) api.Path {
	s := fmt.Sprintf("%06d", n)
	return alike(s + strings.Repeat("n", api.MaxName-len(s)))
}

// some is so many paths, rising.
func some(n int) []api.Path {
	var l []api.Path
	for i := range n {
		l = append(l, named(fmt.Sprint("some-", i)))
	}
	slices.Sort(l)
	return l
}

// hash is a digest for each number.
func hash(n int) api.Hash { return digest.Sum([]byte{byte(n), byte(n >> 8)}) }

// one is an Info of a path that refers to others.
func one(p api.Path, refs ...api.Path) api.Info { return api.Info{Path: p, Refs: refs} }

// sigs is so many signatures from a number on, each of so many bytes; those of greater numbers are greater.
func sigs(from, n, size int) []string {
	var l []string
	for i := range n {
		s := fmt.Sprintf("%04d", from+i)
		l = append(l, s+strings.Repeat("s", size-len(s)))
	}
	return l
}

// rising is a list in order, each once.
func rising[T ~string](l ...T) []T {
	l = slices.Clone(l)
	slices.Sort(l)
	return slices.Compact(l)
}

// mixed is a list in another order.
func mixed[T any](l []T) []T {
	l = slices.Clone(l)
	dice().Shuffle(len(l), func(i, j int) { l[i], l[j] = l[j], l[i] })
	return l
}

// same tells whether two Infos tell the same; lists without an element are the same.
func same(a, b api.Info) bool {
	return a.Path == b.Path && a.Hash == b.Hash && a.Size == b.Size && a.Deriver == b.Deriver && slices.Equal(a.Refs, b.Refs) && slices.Equal(a.Sigs, b.Sigs)
}

// output is one of a derivation.
type output struct {
	drv api.Path
	out string
}

// model is what the chapter says that a DB keeps, in plain maps.
type model struct {
	infos map[api.Path]api.Info
	told  map[output]api.Path
}

func nothing() model { return model{map[api.Path]api.Info{}, map[output]api.Path{}} }

func (m model) clone() model { return model{maps.Clone(m.infos), maps.Clone(m.told)} }

func (m model) same(n model) bool {
	return maps.EqualFunc(m.infos, n.infos, same) && maps.Equal(m.told, n.told)
}

// all is the valid paths, rising.
func (m model) all() []api.Path { return slices.Sorted(maps.Keys(m.infos)) }

func (m model) valid(p api.Path) bool {
	_, valid := m.infos[p]
	return valid
}

func isPath(p api.Path) bool {
	_, _, e := path.Split(p)
	return e == api.OK
}

// formError is the error of one Info of a list.
func formError(l []api.Info, i int) api.Errno {
	x := l[i]
	if !isPath(x.Path) || x.Deriver != "" && !isPath(x.Deriver) || slices.ContainsFunc(x.Refs, func(p api.Path) bool { return !isPath(p) }) {
		return api.ErrForm
	}
	if x.Size < 0 || slices.ContainsFunc(l[:i], func(y api.Info) bool { return x.Path == y.Path }) {
		return api.ErrArg
	}
	if len(x.Refs) > api.MaxRefs || len(x.Sigs) > maxSigs || slices.ContainsFunc(x.Sigs, func(s string) bool { return len(s) > maxSig }) {
		return api.ErrLong
	}
	return api.OK
}

// register is what Register does: those that refer to none that is not taken yet are taken, till none is left or
// there is a ring.
func (m model) register(l []api.Info) api.Errno {
	for i := range l {
		if e := formError(l, i); e != api.OK {
			return e
		}
	}
	fresh := map[api.Path]api.Info{}
	for _, x := range l {
		if old, valid := m.infos[x.Path]; !valid {
			fresh[x.Path] = x
		} else if old.Hash != x.Hash {
			return api.ErrHas
		}
	}
	for _, x := range fresh {
		for _, ref := range x.Refs {
			if _, is := fresh[ref]; !is && !m.valid(ref) {
				return api.ErrRef
			}
		}
	}
	for left := maps.Clone(fresh); len(left) > 0; {
		before := len(left)
		maps.DeleteFunc(left, func(p api.Path, x api.Info) bool {
			return !slices.ContainsFunc(x.Refs, func(ref api.Path) bool {
				_, is := left[ref]
				return is && ref != p
			})
		})
		if len(left) == before {
			return api.ErrLoop
		}
	}
	for _, x := range l {
		if old, valid := m.infos[x.Path]; valid {
			old.Sigs = rising(append(slices.Clone(old.Sigs), x.Sigs...)...)
			old.Sigs = old.Sigs[:min(len(old.Sigs), maxSigs)]
			x = old
		}
		x.Refs, x.Sigs = rising(x.Refs...), rising(x.Sigs...)
		m.infos[x.Path] = x
	}
	return api.OK
}

// referrers is what Referrers answers.
func (m model) referrers(p api.Path) []api.Path {
	var l []api.Path
	for _, q := range m.all() {
		if slices.Contains(m.infos[q].Refs, p) {
			l = append(l, q)
		}
	}
	return l
}

func (m model) remove(p api.Path) api.Errno {
	if !m.valid(p) {
		return api.ErrNone
	}
	if slices.ContainsFunc(m.referrers(p), func(q api.Path) bool { return q != p }) {
		return api.ErrUsed
	}
	delete(m.infos, p)
	return api.OK
}

func (m model) realise(r api.Realised) api.Errno {
	if !isPath(r.Drv) || !isPath(r.Path) {
		return api.ErrForm
	}
	if !path.IsName(r.Out) {
		return api.ErrName
	}
	if p, told := m.told[output{r.Drv, r.Out}]; told && p != r.Path {
		return api.ErrHas
	}
	m.told[output{r.Drv, r.Out}] = r.Path
	return api.OK
}

// closure is what Closure answers of valid paths.
func (m model) closure(l ...api.Path) []api.Path {
	met := map[api.Path]bool{}
	for left := l; len(left) > 0; left = left[1:] {
		if !met[left[0]] {
			met[left[0]] = true
			left = append(slices.Clone(left), m.infos[left[0]].Refs...)
		}
	}
	return slices.Sorted(maps.Keys(met))
}

// order is what Order answers of valid paths.
func (m model) order(l []api.Path) []api.Path {
	left := rising(l...)
	below := map[api.Path][]api.Path{}
	for _, p := range left {
		below[p] = m.closure(p)
	}
	var out []api.Path
	for len(left) > 0 {
		i := slices.IndexFunc(left, func(p api.Path) bool {
			return !slices.ContainsFunc(left, func(q api.Path) bool { return q != p && slices.Contains(below[p], q) })
		})
		out = append(out, left[i])
		left = slices.Delete(left, i, i+1)
	}
	return out
}

// disk is a FS of so much room.
func disk(t *testing.T, room int) *fs.FS {
	t.Helper()
	f, e := fs.New(room)
	if e != api.OK {
		t.Fatal(e)
	}
	return f
}

// opened is the DB of a FS.
func opened(t *testing.T, f *fs.FS) *db.DB {
	t.Helper()
	d, e := db.Open(f, "db")
	if e != api.OK || d == nil {
		t.Fatalf("Open: %v, %v", d, e)
	}
	return d
}

// made is a DB of a new FS in which paths are valid, and last.
func made(t *testing.T, l ...api.Info) (*fs.FS, *db.DB) {
	t.Helper()
	f := disk(t, 1<<26)
	d := opened(t, f)
	ok(t, d.Register(l))
	ok(t, d.Commit())
	return f, d
}

// ok asks for no error.
func ok(t *testing.T, e api.Errno) {
	t.Helper()
	if e != api.OK {
		t.Fatal(e)
	}
}

// answers asks for an error.
func answers(t *testing.T, got, want api.Errno) {
	t.Helper()
	if got != want {
		t.Errorf("%v, want %v", got, want)
	}
}

// lists asks for a list of paths.
func lists(t *testing.T, got []api.Path, want ...api.Path) {
	t.Helper()
	if !slices.Equal(got, want) {
		t.Errorf("%d paths %.300q, want %d paths %.300q", len(got), got, len(want), want)
	}
}

// has asks for what is registered of a path.
func has(t *testing.T, d *db.DB, want api.Info) {
	t.Helper()
	if x, e := d.Get(want.Path); e != api.OK || !same(x, want) {
		t.Errorf("Get(%s): %.300v, %v, want %.300v", want.Path, x, e, want)
	}
}

// lacks asks that a path is not valid.
func lacks(t *testing.T, d *db.DB, p api.Path) {
	t.Helper()
	if x, e := d.Get(p); e != api.ErrNone || !reflect.DeepEqual(x, api.Info{}) {
		t.Errorf("Get(%.100q): %v, %v", p, x, e)
	}
}

// realised asks for the path of an output.
func realised(t *testing.T, d *db.DB, drv api.Path, out string, want api.Path) {
	t.Helper()
	if p, e := d.Realised(drv, out); p != want || e != api.OK {
		t.Errorf("Realised(%.100q, %.100q): %q, %v, want %q", drv, out, p, e, want)
	}
}

// unrealised asks that nothing is told of an output.
func unrealised(t *testing.T, d *db.DB, drv api.Path, out string) {
	t.Helper()
	if p, e := d.Realised(drv, out); p != "" || e != api.ErrNone {
		t.Errorf("Realised(%.100q, %.100q): %q, %v", drv, out, p, e)
	}
}

// told is what a DB tells; of outputs those that are asked for.
func told(t *testing.T, d *db.DB, asked ...output) model {
	t.Helper()
	m := nothing()
	all := d.All()
	if !slices.IsSorted(all) || len(slices.Compact(slices.Clone(all))) != len(all) {
		t.Errorf("All: %.300q", all)
	}
	for _, p := range all {
		x, e := d.Get(p)
		if e != api.OK || x.Path != p {
			t.Errorf("Get(%s): %v, %v", p, x, e)
		}
		m.infos[p] = x
	}
	for _, o := range asked {
		p, e := d.Realised(o.drv, o.out)
		if e == api.OK {
			m.told[o] = p
		} else {
			answers(t, e, api.ErrNone)
		}
	}
	whole(t, d, m)
	return m
}

// whole asks for what is to hold of all that a DB tells: what is referred to is valid, and Referrers tells the same.
func whole(t *testing.T, d *db.DB, m model) {
	t.Helper()
	users := map[api.Path][]api.Path{}
	for _, p := range m.all() {
		for _, ref := range m.infos[p].Refs {
			users[ref] = append(users[ref], p)
			if !m.valid(ref) {
				t.Errorf("%s refers to %s, which is not valid", p, ref)
			}
		}
	}
	for _, p := range m.all() {
		lists(t, d.Referrers(p), users[p]...)
	}
}

// outputs is those of which a model tells something.
func (m model) outputs() []output { return slices.Collect(maps.Keys(m.told)) }

// tells asks a DB for all that it is to have.
func tells(t *testing.T, d *db.DB, want model) {
	t.Helper()
	if got := told(t, d, want.outputs()...); !got.same(want) {
		t.Errorf("it tells %.500v, want %.500v", got, want)
	}
}

// lasts asks what is told of a FS behind each crash; the FS stays as it is.
func lasts(t *testing.T, f *fs.FS, want model) {
	t.Helper()
	for _, keep := range keeps(f, 6) {
		tells(t, opened(t, crashed(f, keep)), want)
	}
}

// keeps is how many things crashes leave: each number, or some ones if there were more than that.
func keeps(f *fs.FS, most int) []int {
	all := f.Pending()
	var l []int
	for keep := range all + 2 {
		if all < most || keep < most/3 || keep > all-most/3 || keep%(all/(most/3)) == 0 {
			l = append(l, keep)
		}
	}
	return l
}

// crashed is a copy of a FS behind a crash.
func crashed(f *fs.FS, keep int) *fs.FS {
	c := f.Copy()
	c.Crash(keep)
	return c
}

// stays asks that something that is refused changes nothing, not even for a Commit.
func stays(t *testing.T, f *fs.FS, d *db.DB, refused func()) {
	t.Helper()
	before := told(t, d)
	refused()
	tells(t, d, before)
	g := state(f)
	f.Fuse(0)
	answers(t, d.Commit(), api.OK)
	f.Fuse(-1)
	if state(f) != g {
		t.Error("the files are others")
	}
}

// state is all files that a FS has, as a text.
func state(f *fs.FS) string {
	var b strings.Builder
	for _, name := range f.Names("") {
		data, _ := f.Read(name)
		fmt.Fprintf(&b, "%q of %d bytes: %s\n", name, len(data), data)
	}
	return b.String()
}

func dice() *rand.Rand { return rand.New(rand.NewPCG(11, 1)) }

// rounds is how often something is tried: a tenth of that, if it is to be short.
func rounds(n int) int {
	if testing.Short() {
		return n / 10
	}
	return n
}

// borrowed is a text whose bytes may be changed behind it.
func borrowed[T ~string](s T) (T, []byte) {
	b := []byte(s)
	return T(unsafe.String(unsafe.SliceData(b), len(b))), b
}

// span is some memory. It is kept: what nobody has any more could be used anew.
type span struct {
	from, to uintptr
	kept     unsafe.Pointer
}

// spanOfText is the memory of a text.
func spanOfText[T ~string](s T) span {
	p := unsafe.Pointer(unsafe.StringData(string(s)))
	return span{uintptr(p), uintptr(p) + uintptr(len(s)), p}
}

// spansOf is the memory of a list of texts, with the room behind its end, and of the texts.
func spansOf[T ~string](l []T) []span {
	p := unsafe.Pointer(unsafe.SliceData(l))
	all := []span{{uintptr(p), uintptr(p) + uintptr(cap(l))*unsafe.Sizeof(""), p}}
	for _, s := range l {
		all = append(all, spanOfText(s))
	}
	return all
}

// spansOfInfo is the memory of what an Info has.
func spansOfInfo(x api.Info) []span {
	return slices.Concat(spansOf(x.Refs), spansOf(x.Sigs), []span{spanOfText(x.Path), spanOfText(x.Deriver)})
}

// meet tells whether two of some memory share any.
func meet(all []span) bool {
	all = slices.DeleteFunc(all, func(s span) bool { return s.from == s.to })
	slices.SortFunc(all, func(a, b span) int {
		if a.from < b.from {
			return -1
		}
		return 1
	})
	for i := 1; i < len(all); i++ {
		if all[i].from < all[i-1].to {
			return true
		}
	}
	return false
}
