package journal_test

import (
	"fmt"
	"math/rand/v2"
	"slices"
	"strings"
	"testing"
	"unsafe"

	"pantry/api"
	"pantry/fs"
	"pantry/journal"
)

const (
	most = 1 << 19 // bytes
	many = 4096    // records
)

// groups is what a journal tells.
type groups [][]string

// of is one group.
func of(records ...string) groups { return groups{records} }

// with is some groups and others behind them.
func (g groups) with(more ...[]string) groups { return append(slices.Clone(g), more...) }

func (g groups) same(h groups) bool { return slices.EqualFunc(g, h, slices.Equal) }

// full tells whether no further group may be committed.
func (g groups) full() bool {
	sum := 0
	for _, p := range slices.Concat(g...) {
		sum += len(p)
	}
	return sum >= most
}

// String is short, whatever the groups have.
func (g groups) String() string {
	if len(g) > 8 {
		return fmt.Sprintf("%v and %d more", g[:8], len(g)-8)
	}
	var b strings.Builder
	for _, records := range g {
		fmt.Fprintf(&b, "(%d:", len(records))
		for _, p := range records[:min(len(records), 8)] {
			fmt.Fprintf(&b, " %.12q/%d", p, len(p))
		}
		b.WriteString(")")
	}
	return b.String()
}

// disk is a FS of so much room.
func disk(t *testing.T, room int) *fs.FS {
	t.Helper()
	f, e := fs.New(room)
	if e != api.OK {
		t.Fatal(e)
	}
	return f
}

// opened is the journal j of a FS.
func opened(t *testing.T, f *fs.FS) *journal.Journal {
	t.Helper()
	j, e := journal.Open(f, "j")
	if e != api.OK || j == nil {
		t.Fatalf("Open: %v, %v", j, e)
	}
	return j
}

// ok asks for no error.
func ok(t *testing.T, e api.Errno) {
	t.Helper()
	if e != api.OK {
		t.Fatal(e)
	}
}

// answers asks for an error.
func answers(t *testing.T, got, want api.Errno) {
	t.Helper()
	if got != want {
		t.Errorf("%v, want %v", got, want)
	}
}

// add lays records down.
func add(t *testing.T, j *journal.Journal, records ...string) {
	t.Helper()
	for _, p := range records {
		ok(t, j.Add([]byte(p)))
	}
}

// commit makes records the last group.
func commit(t *testing.T, j *journal.Journal, records ...string) {
	t.Helper()
	add(t, j, records...)
	ok(t, j.Commit())
}

// told is what a journal tells.
func told(j *journal.Journal) groups {
	var all groups
	for _, g := range j.Groups() {
		var records []string
		for _, p := range g {
			records = append(records, string(p))
		}
		all = append(all, records)
	}
	return all
}

// tells asks a journal for its groups.
func tells(t *testing.T, j *journal.Journal, want groups) {
	t.Helper()
	if got := told(j); !got.same(want) {
		t.Errorf("it tells %v, want %v", got, want)
	}
}

// lasts asks what is told of a FS behind each crash; the FS stays as it is.
func lasts(t *testing.T, f *fs.FS, want groups) {
	t.Helper()
	for keep := range f.Pending() + 2 {
		tells(t, opened(t, crashed(f, keep)), want)
	}
}

// crashed is a copy of a FS behind a crash.
func crashed(f *fs.FS, keep int) *fs.FS {
	c := f.Copy()
	c.Crash(keep)
	return c
}

// state is all that a FS has, in words.
func state(f *fs.FS) string {
	var b strings.Builder
	for _, name := range f.Names("") {
		data, _ := f.Read(name)
		fmt.Fprintf(&b, "%q %q\n", name, data)
	}
	fmt.Fprintf(&b, "used %d, pending %d", f.Used(), f.Pending())
	return b.String()
}

// fresh is what a FS has in which these groups alone were committed, and nothing else was done.
func fresh(t *testing.T, all groups) string {
	t.Helper()
	f := disk(t, 1<<24)
	j := opened(t, f)
	for _, records := range all {
		commit(t, j, records...)
	}
	return state(f)
}

// read is the bytes of a file.
func read(t *testing.T, f *fs.FS, name string) string {
	t.Helper()
	b, e := f.Read(name)
	ok(t, e)
	return string(b)
}

// holding is a FS with a file that lasts.
func holding(t *testing.T, name, data string) *fs.FS {
	t.Helper()
	f := disk(t, 1<<22)
	ok(t, f.Write(name, []byte(data)))
	ok(t, f.Sync())
	return f
}

// empties is records without bytes.
func empties(n int) []string { return make([]string, n) }

// sized is a record of so many bytes.
func sized(n int) string { return strings.Repeat("r", n) }

// pair is two groups that do not go into one file.
func pair() groups { return groups{{sized(most - 9)}, {"", sized(most)}} }

// wide fills a journal with groups that have few bytes and need several files.
func wide(t *testing.T, j *journal.Journal, files int) groups {
	t.Helper()
	var all groups
	// A group takes room for how many records there are, for the length of each, and for a digest: 85 and more
	// groups of 4096 records are beyond 2^20 bytes.
	for i := range 86*(files-1) + 1 {
		records := empties(many)
		records[0] = fmt.Sprint(i)
		commit(t, j, records...)
		all = all.with(records)
	}
	return all
}

func dice() *rand.Rand { return rand.New(rand.NewPCG(8, 1)) }

// rounds is how often something is tried: a tenth of that, if it is to be short.
func rounds(n int) int {
	if testing.Short() {
		return n / 10
	}
	return n
}

// borrowed is a text whose bytes may be changed behind it.
func borrowed(s string) (string, []byte) {
	b := []byte(s)
	return unsafe.String(unsafe.SliceData(b), len(b)), b
}

// span is some memory.
type span struct{ from, to uintptr }

// spanOf is the memory of a list, with the room behind its end.
func spanOf[T any](l []T) span {
	var one T
	from := uintptr(unsafe.Pointer(unsafe.SliceData(l)))
	return span{from, from + uintptr(cap(l))*unsafe.Sizeof(one)}
}

// meet tells whether two of some memory share any.
func meet(all []span) bool {
	all = slices.DeleteFunc(all, func(s span) bool { return s.from == s.to })
	slices.SortFunc(all, func(a, b span) int {
		if a.from < b.from {
			return -1
		}
		return 1
	})
	for i := 1; i < len(all); i++ {
		if all[i].from < all[i-1].to {
			return true
		}
	}
	return false
}
