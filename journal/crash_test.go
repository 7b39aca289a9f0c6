package journal_test

import (
	"fmt"
	"slices"
	"testing"

	"pantry/api"
	"pantry/fs"
	"pantry/journal"
)

// change is a Commit or a Reset, with what is told ahead of it and behind it.
type change struct {
	name   string
	base   *fs.FS // it is copied, and stays
	laid   []string
	resets bool
	before groups
}

func (c change) after() groups {
	if c.resets {
		return nil
	}
	return c.before.with(c.laid)
}

// done is the change in a copy of the FS with a fuse.
func (c change) done(t *testing.T, fuse int) (*fs.FS, api.Errno) {
	t.Helper()
	f := c.base.Copy()
	j := opened(t, f)
	tells(t, j, c.before)
	add(t, j, c.laid...)
	f.Fuse(fuse)
	if c.resets {
		return f, j.Reset()
	}
	return f, j.Commit()
}

// changes is what is tried with a fuse at each place, and each crash behind it.
func changes(t *testing.T) []change {
	t.Helper()
	none := disk(t, 1<<24)
	others := none.Copy()
	ok(t, others.Write("other", nil))
	ok(t, others.Sync())
	some := none.Copy()
	commit(t, opened(t, some), "a", "b")
	commit(t, opened(t, some), "")
	two := groups{{"a", "b"}, {""}}
	full := none.Copy()
	commit(t, opened(t, full), pair()[0]...)
	torn := some.Copy()
	ok(t, torn.Append("j", []byte("torn")))
	ok(t, torn.Sync())
	foreign := none.Copy()
	ok(t, foreign.Write("j", []byte("other bytes")))
	ok(t, foreign.Sync())
	all := []change{
		{name: "first", base: none, laid: []string{"x"}},
		{name: "first beside others", base: others, laid: []string{"x"}},
		{name: "behind others", base: some, laid: []string{"x", "", "y"}, before: two},
		{name: "into another file", base: full, laid: pair()[1], before: pair()[:1]},
		{name: "into a torn file", base: torn, laid: []string{"x"}, before: two},
		{name: "into other bytes", base: foreign, laid: []string{"x"}},
	}
	for _, c := range slices.Clone(all) {
		c.name += ", reset"
		c.resets = true
		all = append(all, c)
	}
	return append(all, wideChanges(t)...)
}

// wideChanges is those of a journal that lies in several files, and of what a Reset left of it that ended early.
func wideChanges(t *testing.T) []change {
	t.Helper()
	several := disk(t, 1<<24)
	j := opened(t, several)
	for _, records := range pair() {
		commit(t, j, records...)
	}
	all := []change{{name: "several files", base: several, resets: true, before: pair()}}
	if !testing.Short() {
		wider := disk(t, 1<<24)
		all = append(all, change{name: "many files", base: wider, resets: true, before: wide(t, opened(t, wider), 3)})
	}
	for keep := 1; ; keep++ {
		half, e := all[0].done(t, keep)
		if e == api.OK {
			break
		}
		half.Crash(keep)
		all = append(all,
			change{name: fmt.Sprint("behind a Reset of ", keep), base: half, laid: pair()[0]},
			change{name: fmt.Sprint("behind a Reset of ", keep, ", reset"), base: half, resets: true})
	}
	torn := several.Copy()
	ok(t, torn.Append("j", []byte("torn")))
	ok(t, torn.Sync())
	return append(all,
		change{name: "several torn files", base: torn, laid: pair()[1], before: pair()[:1]},
		change{name: "several torn files, reset", base: torn, resets: true, before: pair()[:1]})
}

// P8.5: a fuse that burns at each place of a Commit or a Reset, and each crash behind it.
func TestFuseAtEachPlace(t *testing.T) {
	for _, c := range changes(t) {
		t.Run(c.name, func(t *testing.T) {
			for fuse := 0; ; fuse++ {
				f, e := c.done(t, fuse)
				if e == api.OK {
					lasts(t, f, c.after())
					if fuse == 0 {
						t.Error("nothing is done")
					}
					return
				}
				answers(t, e, api.ErrDead)
				c.behindCrashes(t, f)
				c.withoutCrash(t, f)
			}
		})
	}
}

// behindCrashes asks for all of the change or nothing behind each crash, and whether all works from there on.
func (c change) behindCrashes(t *testing.T, f *fs.FS) {
	t.Helper()
	kept := false
	for keep := range f.Pending() + 2 {
		g := crashed(f, keep)
		j := opened(t, g)
		got := told(j)
		now := got.same(c.after()) && !got.same(c.before)
		if !got.same(c.before) && !now {
			t.Fatalf("behind Crash(%d) it tells %v", keep, got)
		}
		if kept && !now {
			t.Errorf("behind Crash(%d) there is less than ahead of it", keep)
		}
		kept = now
		c.goesOn(t, g, got)
	}
}

// withoutCrash asks that what is told from there on stays so, whatever crash comes then.
func (c change) withoutCrash(t *testing.T, f *fs.FS) {
	t.Helper()
	f.Fuse(-1)
	got := told(opened(t, f))
	if !got.same(c.before) && !got.same(c.after()) {
		t.Fatalf("it tells %v", got)
	}
	lasts(t, f, got)
	c.goesOn(t, f, got)
}

// goesOn does the same changes once more behind what is left.
func (c change) goesOn(t *testing.T, f *fs.FS, left groups) {
	t.Helper()
	again := f.Copy()
	j := opened(t, f)
	add(t, j, "new")
	if left.full() {
		answers(t, j.Commit(), api.ErrFull)
		ok(t, j.Reset())
		left = nil
	}
	ok(t, j.Commit())
	left = left.with([]string{"new"})
	tells(t, j, left)
	lasts(t, f, left)
	j = opened(t, again)
	ok(t, j.Reset())
	// The groups that were there are committed anew: nothing of what they had behind them is found there.
	for i, records := range c.before[:min(len(c.before), 2)] {
		commit(t, j, records...)
		lasts(t, again, c.before[:i+1])
	}
}

// P8.5: what others have pending changes nothing.
func TestOthersPending(t *testing.T) {
	for fuse := range 9 {
		f := disk(t, 1<<20)
		j := opened(t, f)
		commit(t, j, "a")
		add(t, j, "b")
		f.Fuse(fuse)
		f.Write("x", []byte("1"))
		f.Write("y", []byte("2"))
		e := j.Commit()
		f.Remove("x")
		f.Write("j2", nil)
		for keep := range f.Pending() + 2 {
			got := told(opened(t, crashed(f, keep)))
			both := groups{{"a"}, {"b"}}
			if !got.same(both) && (e == api.OK || !got.same(both[:1])) {
				t.Errorf("fuse %d, behind Crash(%d): %v", fuse, keep, got)
			}
		}
	}
}

// P8.5: where so many things are pending that they last by themselves.
func TestManyPending(t *testing.T) {
	for _, left := range []int{0, 1, 2, 3} {
		f := disk(t, 1<<20)
		j := opened(t, f)
		add(t, j, "a")
		for range api.MaxOps - left {
			ok(t, f.Write("x", nil))
		}
		f.Fuse(2)
		answers(t, j.Commit(), api.ErrDead)
		seen := false
		for _, keep := range []int{0, 1, 2, 3, api.MaxOps - 3, api.MaxOps - 2, api.MaxOps - 1, api.MaxOps} {
			got := told(opened(t, crashed(f, keep)))
			if len(got) > 0 && !got.same(of("a")) || seen && len(got) == 0 {
				t.Errorf("behind Crash(%d): %v", keep, got)
			}
			seen = len(got) > 0
		}
		if !seen {
			t.Error("all that was done is kept, and there is no group")
		}
	}
}

// tale is a journal that is used at random, and what is known of it.
type tale struct {
	f    *fs.FS
	j    *journal.Journal
	laid []string
	all  groups
	dead bool
	// maybe is what is there too, if the last change erred.
	maybe groups
}

// step is a call at random, with what it is to answer.
func (s *tale) step(t *testing.T, kind, size int) {
	t.Helper()
	switch {
	case kind < 8:
		p := fmt.Sprint(size, sized(size%7))
		if s.answers(t, s.j.Add([]byte(p))) {
			s.laid = append(s.laid, p)
		}
	case kind < 12:
		s.ends(t, s.j.Commit(), s.all.with(s.laid))
	case kind < 13:
		s.j.Drop()
		s.laid = nil
	case kind < 15:
		s.ends(t, s.j.Reset(), nil)
	case kind < 17:
		s.f.Fuse(size % 6)
	default:
		s.again(t, size)
	}
	tells(t, s.j, s.all)
}

// answers tells whether a call was done: one that is not must be of a journal that is dead.
func (s *tale) answers(t *testing.T, e api.Errno) bool {
	t.Helper()
	if s.dead {
		answers(t, e, api.ErrDead)
		return false
	}
	answers(t, e, api.OK)
	return true
}

// ends is the end of a Commit or a Reset that was to leave these groups.
func (s *tale) ends(t *testing.T, e api.Errno, next groups) {
	t.Helper()
	commits := len(next) > len(s.all)
	switch {
	case s.dead:
		answers(t, e, api.ErrDead)
	case commits && len(s.laid) == 0:
		answers(t, e, api.OK)
	case e == api.OK:
		s.all = next
		if commits {
			s.laid = nil
		}
	default:
		answers(t, e, api.ErrDead)
		s.dead, s.maybe = true, next
	}
}

// again opens the journal anew, behind a crash or without one.
func (s *tale) again(t *testing.T, keep int) {
	t.Helper()
	if keep%3 == 0 {
		s.f.Fuse(-1)
	} else {
		s.f.Crash(keep % 5)
	}
	s.j = opened(t, s.f)
	got := told(s.j)
	if !got.same(s.all) && !(s.dead && got.same(s.maybe)) {
		t.Errorf("it tells %v, want %v or %v", got, s.all, s.maybe)
	}
	s.all, s.laid, s.dead, s.maybe = got, nil, false, nil
}

// P8.2 to P8.5, at random.
func TestTales(t *testing.T) {
	r := dice()
	for range rounds(300) {
		s := &tale{f: disk(t, 1<<20)}
		s.j = opened(t, s.f)
		for range 100 {
			s.step(t, r.IntN(19), r.IntN(1000))
		}
		if t.Failed() {
			return
		}
	}
}
