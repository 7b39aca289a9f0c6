package pages_test

import (
	"fmt"
	"strings"
	"testing"

	"pantry/api"
	"pantry/fs"
	"pantry/pages"
)

// The chapter's example.
func TestExample(t *testing.T) {
	p := opened(t, disk(t, 1<<20))
	taken(t, p, 0)
	ok(t, p.Put(0, []byte("x")))
	ok(t, p.Commit())
	taken(t, p, 1)
	ok(t, p.Put(0, []byte("y")))
	p.Drop()
	has(t, p, 0, "x")
	counts(t, p, 1, 0, 0)
}

// P9.1: what may not be handed in.
func TestOpenArgs(t *testing.T) {
	f := disk(t, 1<<20)
	for _, x := range []struct {
		f    *fs.FS
		name string
		want api.Errno
	}{
		{nil, "p", api.ErrArg},
		{nil, "", api.ErrArg},
		{nil, sized(101), api.ErrArg},
		{f, "", api.ErrArg},
		{f, sized(101), api.ErrArg},
		{f, sized(102), api.ErrArg},
		{f, sized(300), api.ErrArg},
		{f, sized(1 << 20), api.ErrArg},
		{f, strings.Repeat("ä", 51), api.ErrArg},
		{f, strings.Repeat("ä", 50), api.OK},
		{f, sized(100), api.OK},
		{f, sized(99), api.OK},
		{f, "p", api.OK},
		{f, "\x00", api.OK},
		{f, "\xff/. \n", api.OK},
		{f, ".", api.OK},
	} {
		p, e := pages.Open(x.f, x.name)
		if e != x.want || (p == nil) != (e != api.OK) {
			t.Errorf("Open(%.10q of %d bytes): %v, %v", x.name, len(x.name), p, e)
		}
	}
	// ErrArg comes ahead of an error of the FS.
	ok(t, f.Write("x", nil))
	f.Fuse(0)
	_, e := pages.Open(f, "")
	answers(t, e, api.ErrArg)
}

// P9.1: pagers of all names work, each for itself, in files whose names begin so.
func TestNames(t *testing.T) {
	f := disk(t, 1<<26)
	names := []string{"p", "q", "\x00", "\xff/", ".", "-", "P", sized(96), strings.Repeat("x", 97), strings.Repeat("y", 99), strings.Repeat("z", 100)}
	for i, name := range names {
		p, e := pages.Open(f, name)
		ok(t, e)
		tells(t, p, nil)
		fill(t, p, name, fmt.Sprint(i))
		ok(t, p.Commit())
		// What is too long for the journal, and what is laid, goes to other files.
		fill(t, p, many(1100, 500)...)
		ok(t, p.Commit())
		for n := range 20 {
			ok(t, p.Put(n+2, []byte(sized(500))))
			ok(t, p.Commit())
		}
		for _, n := range f.Names("") {
			own := false
			for _, m := range names[:i+1] {
				own = own || strings.HasPrefix(n, m)
			}
			if !own {
				t.Errorf("behind %q there is a file %q", name, n)
			}
		}
	}
	f.Crash(0)
	for i, name := range names {
		p, e := pages.Open(f, name)
		ok(t, e)
		counts(t, p, 1102, 0, 0)
		has(t, p, 0, name)
		has(t, p, 1, fmt.Sprint(i))
		has(t, p, 21, sized(500))
		has(t, p, 22, many(1100, 500)[20])
		has(t, p, 1101, many(1100, 500)[1099])
	}
}

// P9.1: where there is nothing there is no page; and Open changes no file.
func TestOpenNothing(t *testing.T) {
	f := disk(t, 0)
	p := opened(t, f)
	tells(t, p, nil)
	counts(t, p, 0, 0, 0)
	fill(t, p, "x")
	p.Drop()
	tells(t, opened(t, f), nil)
	if len(f.Names("")) != 0 || f.Pending() != 0 {
		t.Errorf("there is %s", state(f))
	}
}

// P9.1, P9.3: several Commits, and a pager opened anew behind each.
func TestOpenAnew(t *testing.T) {
	f := disk(t, 1<<22)
	var want book
	for i := range 150 {
		before := state(f)
		p := opened(t, f)
		tells(t, p, want)
		counts(t, p, len(want), want.free(), 0)
		if state(f) != before {
			t.Error("Open changed something")
		}
		n := want.least()
		taken(t, p, n)
		ok(t, p.Put(n, []byte(sized(i))))
		want = want.put(n, sized(i))
		if i%3 == 2 {
			ok(t, p.Free(i/2))
			want = want.with(i/2, leaf{})
		}
		tells(t, p, want)
		ok(t, p.Commit())
		tells(t, p, want)
		if f.Pending() != 0 {
			t.Errorf("%d things are pending", f.Pending())
		}
		lasts(t, f, want)
	}
}

// P9.1: an error of the FS, if it cannot last what would be told; if there is nothing that does not last, there is none.
func TestOpenErrors(t *testing.T) {
	f, _ := filled(t, 1<<20, "a")
	f.Fuse(0)
	tells(t, opened(t, f), of("a"))
	f.Fuse(-1)
	ok(t, f.Write("other", nil))
	f.Fuse(0)
	if p, e := pages.Open(f, "p"); p != nil || e != api.ErrDead {
		t.Errorf("Open: %v, %v", p, e)
	}
	f.Fuse(-1)
	tells(t, opened(t, f), of("a"))
}

// P9.2: New takes the least number that is free, and its page is empty.
func TestNew(t *testing.T) {
	f := disk(t, 1<<22)
	p := opened(t, f)
	for n := range 200 {
		taken(t, p, n)
		has(t, p, n, "")
		ok(t, p.Put(n, []byte("old")))
	}
	for _, n := range []int{130, 5, 199, 64, 63, 128, 0, 127} {
		ok(t, p.Free(n))
	}
	for _, n := range []int{0, 5, 63} {
		taken(t, p, n)
		has(t, p, n, "")
	}
	ok(t, p.Free(5))
	taken(t, p, 5)
	ok(t, p.Commit())
	// What is free lasts, too.
	p = opened(t, f)
	counts(t, p, 200, 5, 0)
	for _, n := range []int{64, 127, 128, 130, 199, 200, 201} {
		taken(t, p, n)
		has(t, p, n, "")
	}
	counts(t, p, 202, 0, 7)
}

// P9.2: pages that are not taken, below 0 and beyond all others among them.
func TestNotTaken(t *testing.T) {
	_, p := filled(t, 1<<20, "a", "b", "c")
	taken(t, p, 3)
	ok(t, p.Free(1))
	want := book{{true, "a"}, {}, {true, "c"}, {true, ""}}
	for _, n := range []int{1, 4, 5, 63, 64, 65, 1000, most - 1, most, most + 1, 1 << 20, 1<<63 - 1, -1, -2, -64, -65, -1 << 63} {
		answers(t, p.Free(n), api.ErrNone)
		answers(t, p.Put(n, nil), api.ErrNone)
		answers(t, p.Put(n, []byte("x")), api.ErrNone)
		// ErrNone comes ahead of ErrLong.
		answers(t, p.Put(n, make([]byte, api.PageSize+1)), api.ErrNone)
		lacks(t, p, n)
	}
	tells(t, p, want)
	counts(t, p, 4, 1, 2)
}

// P9.2: a page has at most PageSize bytes, any.
func TestPutSizes(t *testing.T) {
	f, p := filled(t, 1<<20, "a", "b")
	for _, size := range []int{api.PageSize + 1, api.PageSize + 2, 2 * api.PageSize, 1 << 16, 1<<16 + 1, 1 << 20} {
		answers(t, p.Put(0, make([]byte, size)), api.ErrLong)
	}
	tells(t, p, of("a", "b"))
	counts(t, p, 2, 0, 0)
	any := make([]byte, api.PageSize)
	for i := range any {
		any[i] = byte(i * 7)
	}
	for size := range api.PageSize + 1 {
		ok(t, p.Put(0, any[:size]))
		ok(t, p.Put(1, []byte(sized(api.PageSize-size))))
		ok(t, p.Commit())
		want := of(string(any[:size]), sized(api.PageSize-size))
		tells(t, p, want)
		tells(t, opened(t, f), want)
	}
	ok(t, p.Put(0, nil))
	ok(t, p.Put(1, []byte{}))
	tells(t, p, of("", ""))
	ok(t, p.Commit())
	lasts(t, f, of("", ""))
}

// P9.2: Free lets a page be taken anew, and then it is empty.
func TestFree(t *testing.T) {
	f, p := filled(t, 1<<20, "a", "b", "c")
	ok(t, p.Free(1))
	lacks(t, p, 1)
	answers(t, p.Free(1), api.ErrNone)
	counts(t, p, 3, 1, 1)
	lasts(t, f, of("a", "b", "c"))
	taken(t, p, 1)
	has(t, p, 1, "")
	counts(t, p, 3, 0, 1)
	// A Free and a New ahead of one Commit.
	ok(t, p.Commit())
	lasts(t, f, of("a", "", "c"))
	// The last page stays one that was taken once.
	ok(t, p.Free(2))
	ok(t, p.Commit())
	want := book{{true, "a"}, {true, ""}, {}}
	tells(t, p, want)
	lasts(t, f, want)
	ok(t, p.Free(0))
	ok(t, p.Free(1))
	ok(t, p.Commit())
	lasts(t, f, book{{}, {}, {}})
	p = opened(t, f)
	counts(t, p, 3, 3, 0)
	taken(t, p, 0)
	taken(t, p, 1)
	taken(t, p, 2)
	taken(t, p, 3)
}

// P9.2, P9.3: a page that is taken and freed ahead of one Commit was taken ever since.
func TestTakenAndFreed(t *testing.T) {
	f := disk(t, 1<<20)
	p := opened(t, f)
	taken(t, p, 0)
	ok(t, p.Free(0))
	counts(t, p, 1, 1, 1)
	p.Drop()
	counts(t, p, 0, 0, 0)
	lasts(t, f, nil)
	taken(t, p, 0)
	taken(t, p, 1)
	ok(t, p.Put(1, []byte("gone")))
	ok(t, p.Free(1))
	counts(t, p, 2, 1, 2)
	ok(t, p.Commit())
	counts(t, p, 2, 1, 0)
	lasts(t, f, book{{true, ""}, {}})
	taken(t, p, 1)
	has(t, p, 1, "")
}

// P9.2: 2^14 pages, all taken, and one New more.
func TestAllTaken(t *testing.T) {
	f := disk(t, 1<<26)
	p := opened(t, f)
	for n := range most {
		taken(t, p, n)
	}
	full := func() {
		t.Helper()
		all, free, dirty := most, 0, p.Dirty()
		if n, e := p.New(); n != 0 || e != api.ErrFull {
			t.Errorf("New: %d, %v", n, e)
		}
		counts(t, p, all, free, dirty)
	}
	full()
	ok(t, p.Commit())
	full()
	p = opened(t, f)
	full()
	for _, n := range []int{most - 1, 0, 7777} {
		ok(t, p.Free(n))
		taken(t, p, n)
		full()
	}
	counts(t, p, most, 0, 3)
	// It is full of pages that are taken, not of numbers.
	ok(t, p.Free(most-1))
	ok(t, p.Free(4095))
	counts(t, p, most, 2, 4)
	taken(t, p, 4095)
	taken(t, p, most-1)
	full()
	p.Drop()
	full()
	want := of(make([]string, most)...)
	tells(t, p, want)
	for n, data := range many(most, api.PageSize) {
		ok(t, p.Put(n, []byte(data)))
	}
	ok(t, p.Commit())
	want = of(many(most, api.PageSize)...)
	lasts(t, f, want)
	ok(t, p.Put(1, nil))
	ok(t, p.Free(16000))
	ok(t, p.Commit())
	want = want.put(1, "").with(16000, leaf{})
	tells(t, p, want)
	lasts(t, f, want)
}

// P9.3: Drop behind New, Free and Put, and behind a Commit between them.
func TestDrop(t *testing.T) {
	f, p := filled(t, 1<<20, "a", "b", "c", "d")
	ok(t, p.Free(2))
	ok(t, p.Commit())
	want := book{{true, "a"}, {true, "b"}, {}, {true, "d"}}
	for _, change := range []func(){
		func() {},
		func() { taken(t, p, 2) },
		func() { taken(t, p, 2); taken(t, p, 4); taken(t, p, 5) },
		func() { ok(t, p.Free(0)) },
		func() { ok(t, p.Free(3)); ok(t, p.Free(0)) },
		func() { ok(t, p.Put(1, []byte("x"))); ok(t, p.Put(1, []byte("y"))) },
		func() { ok(t, p.Put(1, nil)); ok(t, p.Free(1)); taken(t, p, 1); ok(t, p.Put(1, []byte("z"))) },
		func() { fill(t, p, many(100, 20)...); ok(t, p.Free(50)); ok(t, p.Free(102)) },
	} {
		change()
		p.Drop()
		tells(t, p, want)
		counts(t, p, 4, 1, 0)
		lasts(t, f, want)
		ok(t, p.Commit())
		lasts(t, f, want)
		p.Drop()
		tells(t, p, want)
	}
	// What was dropped does not come along with what is changed then.
	fill(t, p, "lost", "lost", "lost")
	ok(t, p.Free(0))
	p.Drop()
	taken(t, p, 2)
	taken(t, p, 4)
	ok(t, p.Put(1, []byte("new")))
	want = of("a", "new", "", "d", "")
	tells(t, p, want)
	counts(t, p, 5, 0, 3)
	ok(t, p.Commit())
	tells(t, p, want)
	p.Drop()
	tells(t, p, want)
	lasts(t, f, want)
}

// P9.3: Count and Dirty behind each call.
func TestCounts(t *testing.T) {
	f := disk(t, 1<<20)
	p := opened(t, f)
	for i := range 3 {
		taken(t, p, i)
		counts(t, p, i+1, 0, i+1)
	}
	ok(t, p.Put(1, []byte("x")))
	ok(t, p.Put(1, []byte("y")))
	has(t, p, 1, "y")
	counts(t, p, 3, 0, 3)
	ok(t, p.Free(0))
	counts(t, p, 3, 1, 3)
	ok(t, p.Commit())
	counts(t, p, 3, 1, 0)
	answers(t, p.Free(0), api.ErrNone)
	answers(t, p.Put(0, nil), api.ErrNone)
	answers(t, p.Put(1, make([]byte, 513)), api.ErrLong)
	lacks(t, p, 0)
	counts(t, p, 3, 1, 0)
	// The same bytes once more are a Put that answered OK.
	ok(t, p.Put(1, []byte("y")))
	counts(t, p, 3, 1, 1)
	ok(t, p.Commit())
	counts(t, p, 3, 1, 0)
	taken(t, p, 0)
	counts(t, p, 3, 0, 1)
	ok(t, p.Free(0))
	counts(t, p, 3, 1, 1)
	ok(t, p.Free(2))
	counts(t, p, 3, 2, 2)
	p.Drop()
	counts(t, p, 3, 1, 0)
	fill(t, p, many(200, 3)...)
	counts(t, p, 202, 0, 200)
	ok(t, p.Put(1, nil))
	counts(t, p, 202, 0, 201)
	p.Drop()
	counts(t, p, 3, 1, 0)
	lasts(t, f, book{{}, {true, "y"}, {true, ""}})
}

// P9.3: a Commit with nothing changed does nothing, not even with a burnt fuse, or where there is no room.
func TestCommitNothing(t *testing.T) {
	for _, first := range []bool{false, true} {
		f := disk(t, 1000)
		p := opened(t, f)
		if first {
			fill(t, p, "a", "b")
			ok(t, p.Commit())
		}
		was := told(t, p)
		ok(t, f.Write("other", make([]byte, 1000-f.Used())))
		before := state(f)
		answers(t, p.Commit(), api.OK)
		f.Fuse(0)
		answers(t, p.Commit(), api.OK)
		fill(t, p, "x")
		p.Drop()
		answers(t, p.Commit(), api.OK)
		if state(f) != before || f.Pending() != 1 {
			t.Errorf("there is %s, was %s", state(f), before)
		}
		tells(t, p, was)
		// And it is not dead.
		f.Fuse(-1)
		ok(t, f.Remove("other"))
		fill(t, p, "x")
		ok(t, p.Commit())
		lasts(t, f, was.put(was.least(), "x"))
	}
}

// P9.3: what was changed does not last ahead of its Commit.
func TestNotYet(t *testing.T) {
	f, p := filled(t, 1<<20, "a", "b")
	ok(t, p.Put(0, []byte("x")))
	ok(t, p.Free(1))
	taken(t, p, 1)
	taken(t, p, 2)
	lasts(t, f, of("a", "b"))
	if f.Pending() != 0 {
		t.Errorf("%d things are pending", f.Pending())
	}
	tells(t, p, of("x", "", ""))
	ok(t, p.Commit())
	lasts(t, f, of("x", "", ""))
}

// P9.3: one Commit of more than goes into a journal at once.
func TestLargeCommits(t *testing.T) {
	f := disk(t, 1<<26)
	p := opened(t, f)
	var want book
	for _, size := range []struct{ pages, bytes int }{{1010, 512}, {1030, 512}, {5000, 300}, {3, 3}, {2000, 512}, {2000, 512}, {4200, 0}} {
		fill(t, p, many(size.pages, size.bytes)...)
		want = append(want, of(many(size.pages, size.bytes)...)...)
		ok(t, p.Put(7, []byte(fmt.Sprint(len(want)))))
		want = want.put(7, fmt.Sprint(len(want)))
		counts(t, p, len(want), 0, size.pages+min(1, len(want)-size.pages))
		ok(t, p.Commit())
		tells(t, p, want)
		lasts(t, f, want)
	}
	for n := range want {
		ok(t, p.Free(n))
		want[n] = leaf{}
	}
	ok(t, p.Commit())
	lasts(t, f, want)
	taken(t, p, 0)
	ok(t, p.Commit())
	lasts(t, f, want.put(0, ""))
}

// P9.3: many Commits of a few pages each, more in all than goes into a journal.
func TestManyCommits(t *testing.T) {
	f := disk(t, 1<<23)
	r := dice()
	p := opened(t, f)
	fill(t, p, many(3000, 400)...)
	want := of(many(3000, 400)...)
	ok(t, p.Commit())
	for i := range rounds(1000) {
		for range 20 {
			n, data := r.IntN(3000), sized(r.IntN(513))
			ok(t, p.Put(n, []byte(data)))
			want[n].data = data
		}
		ok(t, p.Commit())
		if i%50 == 0 {
			tells(t, p, want)
			lasts(t, f, want)
		}
	}
	tells(t, p, want)
	lasts(t, f, want)
}

// dead asks a pager for ErrDead, whatever it is told.
func dead(t *testing.T, p *pages.Pager, want book, dirty int) {
	t.Helper()
	for range 2 {
		if n, e := p.New(); n != 0 || e != api.ErrDead {
			t.Errorf("New: %d, %v", n, e)
		}
		for _, n := range []int{0, 1, 2, -1, most} {
			answers(t, p.Free(n), api.ErrDead)
			answers(t, p.Put(n, nil), api.ErrDead)
			answers(t, p.Put(n, make([]byte, api.PageSize+1)), api.ErrDead)
		}
		answers(t, p.Commit(), api.ErrDead)
		tells(t, p, want)
		if p.Dirty() != dirty {
			t.Errorf("%d are dirty, want %d", p.Dirty(), dirty)
		}
	}
}

// P9.4: behind an error of the FS the pager is dead, also where the FS is not any more; what was changed is changed.
func TestDead(t *testing.T) {
	for fuse := range 2 {
		f, p := filled(t, 1<<20, "a", "b")
		ok(t, p.Put(0, []byte("x")))
		taken(t, p, 2)
		f.Fuse(fuse)
		answers(t, p.Commit(), api.ErrDead)
		now := of("x", "b", "")
		dead(t, p, now, 2)
		f.Fuse(-1)
		dead(t, p, now, 2)
		p.Drop()
		dead(t, p, of("a", "b"), 0)
		f.Crash(0)
		lasts(t, f, of("a", "b"))
	}
}

// P9.4: a burnt fuse is no error till the FS is asked for something.
func TestFuseAlone(t *testing.T) {
	f, p := filled(t, 1<<20, "a")
	f.Fuse(0)
	taken(t, p, 1)
	ok(t, p.Put(1, []byte("x")))
	ok(t, p.Free(0))
	taken(t, p, 0)
	p.Drop()
	ok(t, p.Commit())
	taken(t, p, 1)
	f.Fuse(-1)
	ok(t, p.Commit())
	lasts(t, f, of("a", ""))
}

// P9.4: any error of the FS but ErrFull does it: here a file that somebody took away.
func TestDeadWithoutFiles(t *testing.T) {
	f, p := filled(t, 1<<20, "a")
	for _, name := range f.Names("p") {
		ok(t, f.Remove(name))
	}
	taken(t, p, 1)
	answers(t, p.Commit(), api.ErrNone)
	dead(t, p, of("a", ""), 1)
	// Likewise with one of those that have what is too long for the log.
	for i := range 3 {
		f, p = filled(t, 1<<22, many(1100, 500)...)
		names := f.Names("p-")
		ok(t, f.Remove(names[i*(len(names)-1)/2]))
		want := of(many(1100, 500)...)
		ok(t, p.Free(3))
		answers(t, p.Commit(), api.ErrNone)
		dead(t, p, want.with(3, leaf{}), 1)
	}
}

// P9.4: what is dead is one pager, not the others of its FS.
func TestDeadAlone(t *testing.T) {
	f := disk(t, 1<<20)
	p := opened(t, f)
	q, e := pages.Open(f, "q")
	ok(t, e)
	fill(t, p, "a")
	fill(t, q, "b")
	f.Fuse(0)
	answers(t, p.Commit(), api.ErrDead)
	f.Fuse(-1)
	ok(t, q.Commit())
	tells(t, q, of("b"))
	dead(t, p, of("a"), 1)
	p = opened(t, f)
	fill(t, p, "c")
	ok(t, p.Commit())
	tells(t, p, of("c"))
}
