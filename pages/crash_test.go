package pages_test

import (
	"fmt"
	"sort"
	"testing"

	"pantry/api"
	"pantry/fs"
	"pantry/pages"
)

// change is a Commit that is tried with a fuse at each place, and each crash behind it.
type change struct {
	name  string
	base  *fs.FS // it is copied, and stays
	do    func(t *testing.T, p *pages.Pager)
	heavy bool // it is tried at some places only, if it is to be short
}

// ready is the pager in a copy of the FS behind the changes, ahead of its Commit.
func (c change) ready(t *testing.T) (*fs.FS, *pages.Pager) {
	t.Helper()
	f := c.base.Copy()
	p := opened(t, f)
	c.do(t, p)
	return f, p
}

// few changes pages of several sheets, takes one and frees one.
func few(t *testing.T, p *pages.Pager) {
	t.Helper()
	all, _ := p.Count()
	for n := 0; n < all; n += 50 {
		ok(t, p.Put(n, []byte("few")))
	}
	fill(t, p, "one", "two", "three")
	if all > 5 {
		ok(t, p.Free(5))
	}
}

// lots changes more than goes into the journal.
func lots(t *testing.T, p *pages.Pager) {
	t.Helper()
	few(t, p)
	fill(t, p, many(1100, 501)...)
	ok(t, p.Free(300))
	ok(t, p.Free(0))
}

// more takes more new pages than go into the journal, and changes nothing else.
func more(t *testing.T, p *pages.Pager) {
	t.Helper()
	fill(t, p, many(1100, 502)...)
}

// changes is what is tried.
func changes(t *testing.T) []change {
	t.Helper()
	none := disk(t, 1<<24)
	others := none.Copy()
	ok(t, others.Write("other", nil))
	ok(t, others.Sync())
	small, p := filled(t, 1<<24, many(70, 3)...)
	// Its log is worth being laid.
	logged, q := filled(t, 1<<24, many(200, 100)...)
	for n := range 150 {
		ok(t, q.Put(n, []byte(sized(n))))
	}
	ok(t, q.Commit())
	// It has files, and something in the log.
	laid, p := filled(t, 1<<24, many(300, 200)...)
	few(t, p)
	ok(t, p.Commit())
	wide, p := filled(t, 1<<24, many(1100, 500)...)
	all := []change{
		{"first", none, few, false},
		{"first beside others", others, few, false},
		{"a few", small, few, false},
		{"the log is laid", logged, few, false},
		{"files and a log", laid, few, false},
		{"lots first", none, lots, true},
		{"lots behind a few", small, lots, true},
		{"lots behind a log that is laid", logged, lots, true},
		{"lots behind files and a log", laid, lots, true},
		{"a few behind lots", wide, few, true},
		{"lots behind lots", wide, lots, true},
		{"more behind a few", small, more, true},
		{"more behind files and a log", laid, more, true},
	}
	return append(all, leftOvers(t, wide, small)...)
}

// leftOvers is changes behind what is left of others that ended early.
func leftOvers(t *testing.T, bases ...*fs.FS) []change {
	t.Helper()
	var all []change
	for i, base := range bases {
		for _, fuse := range []int{3, 10, 19, 21, 30, 39} {
			f, p := change{base: base, do: lots}.ready(t)
			f.Fuse(fuse)
			if p.Commit() == api.OK {
				break
			}
			f.Crash(fuse)
			name := fmt.Sprint("behind ", fuse, " things of lots, base ", i)
			all = append(all, change{name, f, few, true})
			if fuse%10 == 0 {
				all = append(all, change{name + ", lots", f, lots, true})
			}
		}
	}
	return all
}

// P9.4, P9.5: a fuse that burns at each place of a Commit, and each crash behind it.
func TestFuseAtEachPlace(t *testing.T) {
	for _, c := range changes(t) {
		t.Run(c.name, func(t *testing.T) {
			step := 1
			if c.heavy && testing.Short() {
				step = 7
			}
			before := told(t, opened(t, c.base.Copy()))
			for fuse := 0; ; fuse += step {
				f, p := c.ready(t)
				after, dirty := told(t, p), p.Dirty()
				f.Fuse(fuse)
				e := p.Commit()
				if e == api.OK {
					lasts(t, f, after)
					if fuse == 0 {
						t.Error("nothing is done")
					}
					return
				}
				answers(t, e, api.ErrDead)
				dead(t, p, after, dirty)
				p.Drop()
				dead(t, p, before, 0)
				behindCrashes(t, f, before, after)
				withoutCrash(t, f, before, after)
			}
		})
	}
}

// behindCrashes asks for all of a change or nothing behind each crash, and whether all works from there on.
func behindCrashes(t *testing.T, f *fs.FS, before, after book) {
	t.Helper()
	kept := false
	for i, keep := range keeps(f, 12) {
		g := crashed(f, keep)
		got := told(t, opened(t, g))
		now := got.same(after)
		if !now && !got.same(before) {
			t.Fatalf("behind Crash(%d) it tells %v", keep, got)
		}
		if kept && !now {
			t.Errorf("behind Crash(%d) there is less than ahead of it", keep)
		}
		kept = now
		if len(got) < 1000 || i%5 == 3 {
			goesOn(t, g, got)
		}
	}
}

// withoutCrash asks that what is told from there on stays so, whatever crash comes then.
func withoutCrash(t *testing.T, f *fs.FS, before, after book) {
	t.Helper()
	f.Fuse(-1)
	got := told(t, opened(t, f))
	if !got.same(before) && !got.same(after) {
		t.Fatalf("it tells %v", got)
	}
	lasts(t, f, got)
	goesOn(t, f, got)
}

// goesOn commits a few changes more behind what is left, and nothing stays of what ended early.
func goesOn(t *testing.T, f *fs.FS, left book) {
	t.Helper()
	p := opened(t, f)
	for i := range 3 {
		n := left.least()
		taken(t, p, n)
		data := fmt.Sprint(i, sized(500))
		ok(t, p.Put(n, []byte(data)))
		left = left.put(n, data)
		ok(t, p.Put(0, []byte(data)))
		left = left.put(0, data)
		ok(t, p.Commit())
		tells(t, opened(t, f), left)
		if names := f.Names("p-fresh-"); len(names) > 0 {
			t.Errorf("there is %q", names)
		}
	}
	lasts(t, f, left)
}

// P9.5: what others have pending changes nothing.
func TestOthersPending(t *testing.T) {
	for fuse := range 9 {
		f, p := filled(t, 1<<20, "a")
		fill(t, p, "b")
		f.Fuse(fuse)
		f.Write("x", []byte("1"))
		f.Write("y", []byte("2"))
		e := p.Commit()
		f.Remove("x")
		f.Write("q", nil)
		for keep := range f.Pending() + 2 {
			got := told(t, opened(t, crashed(f, keep)))
			if !got.same(of("a", "b")) && (e == api.OK || !got.same(of("a"))) {
				t.Errorf("fuse %d, behind Crash(%d): %v", fuse, keep, got)
			}
		}
	}
}

// P9.5: where so many things are pending that they last by themselves in the midst of a Commit.
func TestManyPending(t *testing.T) {
	base, _ := filled(t, 1<<24, many(70, 100)...)
	before := told(t, opened(t, base))
	for i, left := range []int{0, 1, 5, 19, 20, 21, 22} {
		f, p := change{base: base, do: lots}.ready(t)
		after := told(t, p)
		for range api.MaxOps - left {
			ok(t, f.Write("x", nil))
		}
		f.Fuse(19 + i)
		e := p.Commit()
		for _, keep := range []int{0, 1, 2, 19, 20, 21, 22, api.MaxOps} {
			got := told(t, opened(t, crashed(f, keep)))
			if !got.same(after) && (e == api.OK || !got.same(before)) {
				t.Errorf("%d things ahead of the end, behind Crash(%d): %v", left, keep, got)
			}
		}
	}
}

// P9.4, P9.5: a fuse that burns while a Commit without room takes back what it did.
func TestFuseWithoutRoom(t *testing.T) {
	const room = 1 << 21
	wide, p := filled(t, room, many(500, 500)...)
	few(t, p)
	ok(t, p.Commit())
	grown := tight{room: room, first: many(300, 300), again: 3, grows: true}.base(t)
	step := 1
	if testing.Short() {
		step = 7
	}
	for _, base := range []*fs.FS{wide, grown} {
		c := change{base: base, do: lots}
		// With one byte less than it takes, all is done but what ends it.
		for _, left := range []int{0, 100, 5000, 20000, 100000, 300000, c.takes(t, room) - 1} {
			fuse := 0
			for !c.withoutRoom(t, room, left, fuse) {
				fuse += step
			}
			// Now none of what it does has an error but ErrFull: there is more of the fuse than it takes.
			f, p := c.ready(t)
			leave(t, f, room, left)
			f.Fuse(fuse + 1)
			answers(t, p.Commit(), api.ErrFull)
			ok(t, f.Sync())
		}
	}
}

// takes is the least room with which the Commit is done.
func (c change) takes(t *testing.T, room int) int {
	t.Helper()
	return sort.Search(room-c.base.Used(), func(left int) bool {
		f, p := c.ready(t)
		leave(t, f, room, left)
		return p.Commit() == api.OK
	})
}

// withoutRoom is whether a Commit without room answers so, ahead of the end of a fuse.
func (c change) withoutRoom(t *testing.T, room, left, fuse int) bool {
	t.Helper()
	f, p := c.ready(t)
	leave(t, f, room, left)
	before, after, dirty := told(t, opened(t, f)), told(t, p), p.Dirty()
	f.Fuse(fuse)
	e := p.Commit()
	for _, keep := range keeps(f, 12) {
		if got := told(t, opened(t, crashed(f, keep))); !got.same(before) {
			t.Fatalf("%d left, fuse %d, behind Crash(%d): %v", left, fuse, keep, got)
		}
	}
	if e == api.ErrFull {
		return true
	}
	answers(t, e, api.ErrDead)
	dead(t, p, after, dirty)
	f.Fuse(-1)
	leave(t, f, room, room/2)
	goesOn(t, f, before)
	return false
}

// tale is a pager that is used at random, and what is known of it.
type tale struct {
	f     *fs.FS
	p     *pages.Pager
	now   book
	last  book
	dirty map[int]int
	dead  bool
	maybe book // what is there too, if the last Commit erred
	full  bool // the FS has no room
}

const taleRoom = 1 << 23

// step is a call at random, with what it is to answer.
func (s *tale) step(t *testing.T, kind, n, size int) {
	t.Helper()
	switch {
	case kind < 25:
		s.takes(t)
	case kind < 35:
		s.frees(t, n)
	case kind < 65:
		s.puts(t, n, sized(size))
	case kind < 85:
		s.commits(t)
	case kind < 88:
		s.p.Drop()
		s.now, s.dirty = s.last, nil
	case kind < 91:
		s.f.Fuse(size % 8)
	case kind < 94:
		s.fills(t, size)
	case kind < 95 && size < 50:
		for _, data := range many(1060, api.PageSize) {
			n := s.now.least()
			s.takes(t)
			s.puts(t, n, data)
		}
	default:
		s.again(t, size)
	}
}

// changed keeps what a call that answered OK changed.
func (s *tale) changed(n int, x leaf) {
	s.now = s.now.with(n, x)
	if s.dirty == nil {
		s.dirty = map[int]int{}
	}
	s.dirty[n]++
}

func (s *tale) takes(t *testing.T) {
	t.Helper()
	n, e := s.p.New()
	if s.dead {
		answers(t, e, api.ErrDead)
		return
	}
	if n != s.now.least() || e != api.OK {
		t.Errorf("New: %d, %v, want %d", n, e, s.now.least())
	}
	s.changed(s.now.least(), leaf{true, ""})
}

func (s *tale) frees(t *testing.T, n int) {
	t.Helper()
	e := s.p.Free(n)
	if s.answers(t, e, n) {
		s.changed(n, leaf{})
	}
}

func (s *tale) puts(t *testing.T, n int, data string) {
	t.Helper()
	e := s.p.Put(n, []byte(data))
	if s.answers(t, e, n) {
		s.changed(n, leaf{true, data})
	}
}

// answers tells whether something was done to a page.
func (s *tale) answers(t *testing.T, e api.Errno, n int) bool {
	t.Helper()
	want := api.OK
	switch {
	case s.dead:
		want = api.ErrDead
	case n < 0 || n >= len(s.now) || !s.now[n].taken:
		want = api.ErrNone
	}
	answers(t, e, want)
	return want == api.OK
}

func (s *tale) commits(t *testing.T) {
	t.Helper()
	e := s.p.Commit()
	switch {
	case s.dead:
		answers(t, e, api.ErrDead)
	case len(s.dirty) == 0:
		answers(t, e, api.OK)
	case e == api.OK:
		s.last, s.dirty = s.now, nil
	case e == api.ErrFull:
		if !s.full {
			t.Error("there is room")
		}
	default:
		answers(t, e, api.ErrDead)
		s.dead, s.maybe = true, s.now
	}
}

// fills takes the room of the FS, or gives it back.
func (s *tale) fills(t *testing.T, size int) {
	t.Helper()
	for _, name := range s.f.Names("filler") {
		s.f.Remove(name)
	}
	for i := 0; size%2 == 0 && s.f.Used()+size < taleRoom && i < 20; i++ {
		s.f.Write(fmt.Sprint("filler", i), make([]byte, min(taleRoom-s.f.Used()-size, api.MaxFile)))
	}
	// With a burnt fuse some may have stayed.
	s.full = len(s.f.Names("filler")) > 0
}

// again opens the pager anew, behind a crash or without one.
func (s *tale) again(t *testing.T, keep int) {
	t.Helper()
	if keep%3 == 0 {
		s.f.Fuse(-1)
	} else {
		s.f.Crash(keep % 50)
	}
	s.p = opened(t, s.f)
	got := told(t, s.p)
	if !got.same(s.last) && !(s.dead && got.same(s.maybe)) {
		t.Errorf("it tells %v, want %v or %v", got, s.last, s.maybe)
	}
	s.now, s.last, s.dirty, s.dead = got, got, nil, false
	s.full = len(s.f.Names("filler")) > 0
}

// P9.2 to P9.5, at random.
func TestTales(t *testing.T) {
	r := dice()
	for i := range rounds(150) {
		s := &tale{f: disk(t, taleRoom)}
		s.p = opened(t, s.f)
		for range 200 {
			n := r.IntN(len(s.now) + 3)
			s.step(t, r.IntN(100), n-1, r.IntN(api.PageSize+1))
			tells(t, s.p, s.now)
			counts(t, s.p, len(s.now), s.now.free(), len(s.dirty))
		}
		if t.Failed() {
			t.Fatalf("tale %d", i)
		}
	}
}
