package fs_test

import (
	"fmt"
	"math"
	"strings"
	"testing"

	"pantry/api"
	"pantry/fs"
)

// story is calls of all kinds, some of which err.
func story() []call {
	return []call{
		write("a", "one"), link("a", "b"), appends("b", "!"), remove("none"), syncs(),
		write("a", "two"), appends("a", "?"), link("a", "b"), rename("b", "c"), rename("a", "a"), link("c", ""), link("c", "d"),
		syncs(), syncs(), write("e", strings.Repeat("x", 200)), appends("d", "+"), rename("a", "c"), write("d", ""), appends("none", "x"), remove("d"), link("c", "z"),
		appends("z", "z"), rename("z", "c"), rename("none", "c"), write("z", "end"), syncs(), appends("z", "ing"), remove("c"),
	}
}

// P7.3: Sync makes all things last.
func TestSync(t *testing.T) {
	f := made(t, 100)
	run(t, f, syncs(), write("a", "x"), syncs(), syncs())
	has(t, f, 0, view{file("x", "a")})
	run(t, f, write("b", "y"), remove("a"))
	has(t, f, 2, view{file("y", "b")})
	run(t, f, syncs())
	for _, keep := range []int{0, 1, 2, -1} {
		f.Crash(keep)
		has(t, f, 0, view{file("y", "b")})
	}
}

// P7.3: of the pending things the first ones stay done, however many are to be kept.
func TestCrashKeeps(t *testing.T) {
	for _, x := range []struct {
		keep int
		want view
	}{
		{math.MinInt, view{file("0", "a")}},
		{-1, view{file("0", "a")}},
		{0, view{file("0", "a")}},
		{1, view{file("01", "a")}},
		{2, view{file("01", "a", "b")}},
		{3, view{file("01", "b")}},
		{4, view{file("012", "b")}},
		{5, view{file("012", "b")}},
		{math.MaxInt, view{file("012", "b")}},
	} {
		f := made(t, 100)
		run(t, f, write("a", "0"), syncs(), appends("a", "1"), link("a", "b"), remove("a"), appends("b", "2"))
		f.Crash(x.keep)
		has(t, f, 0, x.want)
		// All that is there lasts.
		run(t, f, write("c", "x"))
		f.Crash(0)
		has(t, f, 0, x.want)
		f.Crash(9)
		has(t, f, 0, x.want)
	}
}

// P7.3: what goes on behind a crash is pending from there on.
func TestThingsBehindCrash(t *testing.T) {
	f := made(t, 100)
	run(t, f, write("a", "0"), appends("a", "1"), appends("a", "2"), appends("a", "3"))
	f.Crash(2)
	run(t, f, appends("a", "x"), link("a", "b"), appends("b", "y"))
	has(t, f, 3, view{file("01xy", "a", "b")})
	f.Crash(1)
	has(t, f, 0, view{file("01x", "a")})
	run(t, f, appends("a", "z"), syncs())
	f.Crash(0)
	has(t, f, 0, view{file("01xz", "a")})
}

// P7.3: as many things as MaxOps are pending; ahead of the next one they last.
func TestManyThings(t *testing.T) {
	number := func(i int) string { return fmt.Sprint(i) }
	f := made(t, 1<<20)
	for i := range api.MaxOps {
		run(t, f, write("a", number(i)))
		if f.Pending() != i+1 {
			t.Fatal(i, f.Pending())
		}
	}
	last := api.MaxOps - 1
	// One that errs is no thing: nothing lasts ahead of it.
	answers(t, f, remove("none"), api.ErrNone)
	answers(t, f, write("", ""), api.ErrName)
	answers(t, f, write("b", strings.Repeat("x", api.MaxFile)), api.ErrFull)
	f.Fuse(0)
	answers(t, f, write("b", ""), api.ErrDead)
	f.Fuse(-1)
	has(t, f, api.MaxOps, view{file(number(last), "a")})
	for _, keep := range []int{0, 1, 77, last, last + 1, last + 2} {
		g := f.Copy()
		g.Crash(keep)
		want := view{file(number(min(keep, last+1)-1), "a")}
		if keep == 0 {
			want = nil
		}
		has(t, g, 0, want)
	}
	g := f.Copy()
	for _, h := range []*fs.FS{f, g} {
		run(t, h, link("a", "b"))
		has(t, h, 1, view{file(number(last), "a", "b")})
		run(t, h, write("a", ""))
		has(t, h, 2, view{file("", "a"), file(number(last), "b")})
		h.Crash(0)
		has(t, h, 0, view{file(number(last), "a")})
	}
}

// P7.3, P7.4: that things last ahead of the next one is no Sync that a fuse counts.
func TestManyThingsWithFuse(t *testing.T) {
	f := made(t, 1)
	f.Fuse(api.MaxOps + 2)
	for range api.MaxOps {
		run(t, f, write("a", ""))
	}
	run(t, f, write("a", "x"), write("b", ""))
	has(t, f, 2, view{file("x", "a"), file("", "b")})
	answers(t, f, write("b", ""), api.ErrDead)
	f.Crash(1)
	has(t, f, 0, view{file("x", "a")})
}

// P7.3: things that last again and again, with as many names as there may be: no Sync goes through all of them.
func TestManySyncs(t *testing.T) {
	f := made(t, 1)
	for i := range api.MaxNames {
		run(t, f, write(fmt.Sprint(i), ""), syncs())
	}
	for range api.MaxNames {
		run(t, f, write("7", "x"), syncs())
	}
	f.Crash(0)
	if n := len(f.Names("")); n != api.MaxNames || f.Used() != 1 {
		t.Error(n, f.Used())
	}
}

// P7.4, P7.6: a fuse that burns at each place of a story, and each crash behind it.
func TestFuseAtEachPlace(t *testing.T) {
	for n := range len(story()) + 3 {
		f, m := made(t, 100), newModel(100)
		f.Fuse(n)
		m.fuse = n
		done := 0
		for _, c := range story() {
			want := m.done(c)
			answers(t, f, c, want)
			if want == api.OK {
				done++
			}
		}
		if done > n {
			t.Errorf("%d were done with a fuse of %d", done, n)
		}
		same(t, f, m)
		sameBehindCrashes(t, f, m)
	}
}

// P7.4: behind its last thing the fuse is burnt at once; what errs does not count.
func TestFuse(t *testing.T) {
	f := made(t, 10)
	f.Fuse(2)
	answers(t, f, remove("a"), api.ErrNone)
	answers(t, f, write("", ""), api.ErrName)
	answers(t, f, write("a", "12345678901"), api.ErrFull)
	run(t, f, write("a", "x"))
	answers(t, f, link("a", "a"), api.ErrHas)
	run(t, f, syncs())
	for _, c := range []call{write("a", ""), write("", ""), appends("a", ""), link("a", "b"), rename("a", "a"), remove("a"), remove("none"), syncs()} {
		answers(t, f, c, api.ErrDead)
	}
	has(t, f, 0, view{file("x", "a")})
}

// P7.4: another fuse takes the place of the first; below 0 there is none.
func TestFuseAnew(t *testing.T) {
	f := made(t, 10)
	f.Fuse(1)
	f.Fuse(3)
	run(t, f, write("a", ""), syncs(), syncs())
	answers(t, f, syncs(), api.ErrDead)
	f.Fuse(1)
	run(t, f, syncs())
	answers(t, f, syncs(), api.ErrDead)
	for _, n := range []int{-1, -2, math.MinInt} {
		f.Fuse(0)
		answers(t, f, syncs(), api.ErrDead)
		f.Fuse(n)
		for range 50 {
			run(t, f, write("a", ""), syncs())
		}
	}
	f.Fuse(math.MaxInt)
	run(t, f, write("a", ""), syncs())
	f.Fuse(5)
	f.Fuse(0)
	answers(t, f, write("a", ""), api.ErrDead)
}

// P7.3: behind a crash there is no fuse, burnt or not.
func TestFuseBehindCrash(t *testing.T) {
	for _, n := range []int{0, 1, 2, 3} {
		f := made(t, 10)
		run(t, f, write("a", "x"))
		f.Fuse(n)
		f.Crash(1)
		run(t, f, write("b", ""), write("b", ""), write("b", ""), syncs(), syncs())
		has(t, f, 0, view{file("x", "a"), file("", "b")})
	}
}

// P7.5: what goes on with a burnt fuse.
func TestAskedWithBurntFuse(t *testing.T) {
	f := made(t, 10)
	run(t, f, write("a", "x"), syncs(), link("a", "b"), appends("a", "y"))
	f.Fuse(0)
	has(t, f, 2, view{file("xy", "a", "b")})
	g := f.Copy()
	has(t, g, 2, view{file("xy", "a", "b")})
	answers(t, f, syncs(), api.ErrDead)
	run(t, g, remove("a"), syncs())
	has(t, g, 0, view{file("xy", "b")})
	f.Crash(1)
	has(t, f, 0, view{file("x", "a", "b")})
	run(t, f, remove("a"), syncs())
}

// P7.6: what was there at a Sync and was not touched since is there behind any crash.
func TestUntouchedStays(t *testing.T) {
	f := made(t, 1000)
	run(t, f, write("keep", "kept"), link("keep", "too"), write("old", ""), syncs())
	for i, c := range []call{write("a", "x"), write("old", "new"), link("old", "b"), rename("a", "old"), appends("b", "y"), remove("b"), write("c", "z"), rename("c", "b"), remove("old")} {
		run(t, f, c)
		for keep := range i + 2 {
			g := f.Copy()
			g.Crash(keep)
			for _, name := range []string{"keep", "too"} {
				b, e := g.Read(name)
				if first, n := g.Node(name); string(b) != "kept" || e != api.OK || first != "keep" || n != 2 {
					t.Errorf("%s behind %v and Crash(%d): %q, %v, %q, %d", name, c, keep, b, e, first, n)
				}
			}
		}
	}
}

// P7.6: Crash(keep) is what one would have who did just the first keep things.
func TestCrashIsTheFirstThings(t *testing.T) {
	var things []call
	m := newModel(100)
	for _, c := range story() {
		if c.kind != doSync && m.done(c) == api.OK {
			things = append(things, c)
		}
	}
	for last := range len(things) + 1 {
		for keep := last; keep <= len(things); keep++ {
			f, g := made(t, 100), made(t, 100)
			run(t, f, things[:last]...)
			run(t, f, syncs())
			run(t, f, things[last:]...)
			f.Crash(keep - last)
			run(t, g, things[:keep]...)
			run(t, g, syncs())
			if told(f) != told(g) {
				t.Errorf("%d last, %d are kept: %s, want %s", last, keep, told(f), told(g))
			}
		}
	}
}
