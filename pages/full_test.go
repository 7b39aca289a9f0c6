package pages_test

import (
	"fmt"
	"testing"

	"pantry/api"
	"pantry/fs"
	"pantry/pages"
)

// leave lets a FS have so many bytes left, by files that take all others.
func leave(t *testing.T, f *fs.FS, room, left int) {
	t.Helper()
	for _, name := range f.Names("filler") {
		ok(t, f.Remove(name))
	}
	for f.Used()+left < room {
		size := min(room-f.Used()-left, api.MaxFile)
		ok(t, f.Write(fmt.Sprint("filler", f.Used()), make([]byte, size)))
	}
	ok(t, f.Sync())
}

// tries is whether a Commit was done. One that answers ErrFull is asked for all else: what was changed is changed, and
// does not last, and nothing of it is left in the FS.
func tries(t *testing.T, f *fs.FS, p *pages.Pager, before book) bool {
	t.Helper()
	now, dirty, used := told(t, p), p.Dirty(), f.Used()
	e := p.Commit()
	tells(t, p, now)
	if e == api.OK {
		counts(t, p, len(now), now.free(), 0)
		lasts(t, f, now)
		return true
	}
	answers(t, e, api.ErrFull)
	counts(t, p, len(now), now.free(), dirty)
	lasts(t, f, before)
	if f.Used() > used || len(f.Names("p-fresh-")) > 0 {
		t.Errorf("%d bytes are used, were %d, and there is %q", f.Used(), used, f.Names("p"))
	}
	return false
}

// refused asks for a Commit without room.
func refused(t *testing.T, f *fs.FS, p *pages.Pager, before book) {
	t.Helper()
	if tries(t, f, p, before) {
		t.Error("it is done")
	}
}

// P9.3: a FS without any room.
func TestNoRoom(t *testing.T) {
	f := disk(t, 0)
	p := opened(t, f)
	for i := range 3 {
		fill(t, p, "")
		refused(t, f, p, nil)
		counts(t, p, i+1, 0, i+1)
	}
	p.Drop()
	tells(t, p, nil)
	answers(t, p.Commit(), api.OK)
	fill(t, p, many(1500, 500)...)
	refused(t, f, p, nil)
	if len(f.Names("")) != 0 {
		t.Errorf("there is %s", state(f))
	}
}

// P9.3, P9.4: a FS without room, and a Commit that then has room.
func TestRoomLater(t *testing.T) {
	const room = 1 << 16
	for _, drop := range []bool{false, true} {
		f, p := filled(t, room, "a", "b")
		leave(t, f, room, 0)
		fill(t, p, "c")
		ok(t, p.Put(0, []byte("x")))
		ok(t, p.Free(1))
		for range 3 {
			refused(t, f, p, of("a", "b"))
		}
		// It is not dead.
		ok(t, p.Put(0, []byte("y")))
		taken(t, p, 1)
		taken(t, p, 3)
		ok(t, p.Free(2))
		want := book{{true, "y"}, {true, ""}, {}, {true, ""}}
		tells(t, p, want)
		counts(t, p, 4, 1, 4)
		refused(t, f, p, of("a", "b"))
		if drop {
			p.Drop()
			tells(t, p, of("a", "b"))
			counts(t, p, 2, 0, 0)
			ok(t, p.Put(1, []byte("z")))
			want = of("a", "z")
		}
		leave(t, f, room, room/2)
		ok(t, p.Commit())
		tells(t, p, want)
		counts(t, p, len(want), want.free(), 0)
		lasts(t, f, want)
	}
}

// P9.3: behind a Commit that had no room the next one has its own changes alone.
func TestRefusedIsNotCommitted(t *testing.T) {
	const room = 1 << 21
	f, p := filled(t, room, "a", "b")
	for _, wide := range []int{2, 1200} {
		before := told(t, p)
		leave(t, f, room, 100)
		fill(t, p, many(wide, 500)...)
		ok(t, p.Put(0, []byte("lost")))
		refused(t, f, p, before)
		p.Drop()
		ok(t, p.Put(1, []byte(fmt.Sprint(wide))))
		ok(t, p.Commit())
		tells(t, p, before.put(1, fmt.Sprint(wide)))
		lasts(t, f, before.put(1, fmt.Sprint(wide)))
	}
}

// tight is a Commit that is tried with more and more room.
type tight struct {
	name        string
	room        int
	first, then []string // pages that last, and what they and others are to be
	again       int      // how often the first pages are committed once more, a byte shorter each time
	grows       bool     // they begin without bytes, and grow each time
	step        int      // bytes
	fits        bool     // without any room: the log that is laid gives it
}

// base is a FS with the first pages.
func (x tight) base(t *testing.T) *fs.FS {
	t.Helper()
	f := disk(t, x.room)
	p := opened(t, f)
	if x.grows {
		fill(t, p, make([]string, len(x.first))...)
	} else {
		fill(t, p, x.first...)
	}
	ok(t, p.Commit())
	for i := range x.again {
		for n, data := range x.first {
			if !x.grows {
				ok(t, p.Put(n, []byte(data[i:])))
			} else if i == 0 || n%3 > 0 {
				// What the last ones did not change is in the files alone.
				ok(t, p.Put(n, []byte(data[:len(data)*(i+1)/x.again])))
			}
		}
		ok(t, p.Commit())
	}
	return f
}

// change does what is to be committed.
func (x tight) change(t *testing.T, p *pages.Pager) {
	t.Helper()
	for n, data := range x.then {
		if n >= len(x.first) {
			fill(t, p, data)
		} else {
			ok(t, p.Put(n, []byte(data)))
		}
	}
}

// done is whether the Commit is, with so many bytes left; if it is not, it is behind that with all of them.
func (x tight) done(t *testing.T, base *fs.FS, left int) bool {
	t.Helper()
	f := base.Copy()
	p := opened(t, f)
	before := told(t, p)
	leave(t, f, x.room, left)
	x.change(t, p)
	now := told(t, p)
	if tries(t, f, p, before) {
		return true
	}
	refused(t, f, p, before)
	leave(t, f, x.room, x.room)
	ok(t, p.Commit())
	tells(t, p, now)
	lasts(t, f, now)
	return false
}

// P9.3: whatever is left of the room, a Commit is done or leaves all as it was; with enough of it, it is done.
func TestLittleRoom(t *testing.T) {
	for _, x := range []tight{
		{"first", 1 << 14, nil, many(3, 500), 0, false, 20, false},
		{"in the log", 1 << 14, many(3, 500), many(3, 400), 0, false, 20, false},
		{"the log is to be laid", 1 << 14, many(3, 500), many(3, 400), 1, false, 20, true},
		{"the log is to be laid anew", 1 << 14, many(3, 500), many(3, 400), 6, false, 20, true},
		{"several sheets", 1 << 18, many(200, 100), many(220, 90), 3, false, 700, false},
		{"beyond the log", 1 << 22, nil, many(1200, 500), 0, false, 40000, false},
		{"beyond a log that has something", 1 << 22, many(1000, 500), many(1500, 400), 0, false, 40000, false},
		{"behind one beyond the log", 1 << 22, many(1200, 500), many(10, 400), 0, false, 500, false},
		{"twice beyond the log", 1 << 22, many(1200, 500), many(1300, 480), 0, false, 40000, false},
		{"the log grew", 1 << 18, many(200, 100), many(220, 120), 4, true, 300, false},
		{"the log grew beyond others", 1 << 22, many(700, 400), many(900, 512), 3, true, 15000, false},
	} {
		t.Run(x.name, func(t *testing.T) {
			if testing.Short() {
				x.step *= 8
			}
			base := x.base(t)
			left := 0
			for !x.done(t, base, left) {
				left += x.step
			}
			if (left == 0) != x.fits {
				t.Errorf("with %d bytes it is done", left)
			}
			// The last bytes that are lacking are those of what ends it.
			for size := x.step / 2; size > 0 && left > 0; size /= 2 {
				if x.done(t, base, left-size) {
					left -= size
				}
			}
		})
	}
}

// P9.3: where there is no room to lay the log, it takes what it has room for.
func TestLogAlone(t *testing.T) {
	const room = 1 << 14
	f, p := filled(t, room, many(10, 300)...)
	leave(t, f, room, 200)
	want := told(t, p)
	for i := range 3 {
		ok(t, p.Put(i, []byte("x")))
		want = want.put(i, "x")
		ok(t, p.Commit())
		lasts(t, f, want)
	}
	ok(t, p.Put(3, []byte(sized(200))))
	refused(t, f, p, want)
}

// P9.3: a log that there is no room to lay leaves all files as they were, smaller ones and greater ones.
func TestLayTakesBack(t *testing.T) {
	const room = 1 << 16
	f, p := filled(t, room, many(192, 100)...)
	ok(t, p.Put(0, []byte(sized(100))))
	ok(t, p.Commit())
	// The first file gets 1000 bytes less, the second one 1400 more, the third one 5000 more.
	for n := range 10 {
		ok(t, p.Put(n, nil))
		ok(t, p.Put(n+64, []byte(sized(240))))
	}
	for n := range 50 {
		ok(t, p.Put(n+128, []byte(sized(200))))
	}
	ok(t, p.Commit())
	want := told(t, p)
	leave(t, f, room, 500)
	before := state(f)
	ok(t, p.Put(150, []byte(sized(510))))
	ok(t, p.Put(20, []byte(sized(90))))
	refused(t, f, p, want)
	if state(f) != before {
		t.Error("the files are others")
	}
	leave(t, f, room, 6000)
	want = told(t, p)
	ok(t, p.Commit())
	lasts(t, f, want)
}

// P9.3: what was committed ahead does not take up all the room: pages are changed over and over in a small FS.
func TestOverAndOver(t *testing.T) {
	for _, size := range []int{0, 1, 100, api.PageSize} {
		const room = 1 << 12
		f := disk(t, room)
		p := opened(t, f)
		fill(t, p, many(1, size)...)
		for i := range 300 {
			ok(t, p.Put(0, []byte(sized(size))))
			if e := p.Commit(); e != api.OK {
				t.Fatalf("Commit %d with %d bytes: %v", i, size, e)
			}
		}
		// And in little room that others leave.
		leave(t, f, room, 700)
		for i := range 100 {
			data := sized((i + size) % (size + 1))
			ok(t, p.Put(0, []byte(data)))
			if e := p.Commit(); e != api.OK {
				t.Fatalf("Commit %d with %d bytes in little room: %v", i, size, e)
			}
			if i%7 == 0 {
				p = opened(t, f)
			}
			has(t, p, 0, data)
			lasts(t, f, of(data))
		}
	}
}

// P9.3: ErrFull, where the FS has as many names as it may.
func TestNoNames(t *testing.T) {
	base, _ := filled(t, 1<<23, "a")
	for i := range api.MaxNames - len(base.Names("")) {
		ok(t, base.Write(fmt.Sprint("filler", i), nil))
	}
	ok(t, base.Sync())
	// A file of pages is needed for more than goes into the log.
	p := opened(t, base)
	fill(t, p, many(1300, 500)...)
	refused(t, base, p, of("a"))
	for i := range 10 {
		ok(t, base.Remove(fmt.Sprint("filler", i)))
	}
	refused(t, base, p, of("a"))
	for i := range 30 {
		ok(t, base.Remove(fmt.Sprint("filler", i+10)))
	}
	ok(t, p.Commit())
	lasts(t, base, append(of("a"), of(many(1300, 500)...)...))
}

// P9.3: the log is laid where the journal has no room any more, though the FS has some.
func TestFullLog(t *testing.T) {
	f := disk(t, 1<<24)
	p := opened(t, f)
	// All sheets have more than what is committed of them, so that it is not worth it to lay the log.
	fill(t, p, many(5000, 500)...)
	want := of(many(5000, 500)...)
	ok(t, p.Commit())
	for i := range 12 {
		for n := range 1000 {
			data := fmt.Sprint(i, n, sized(500))
			ok(t, p.Put(n*5+i%5, []byte(data)))
			want[n*5+i%5].data = data
		}
		ok(t, p.Commit())
		lasts(t, f, want)
	}
}
