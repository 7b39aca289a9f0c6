package store_test

import (
	"fmt"
	"testing"

	"pantry/api"
	"pantry/fs"
	"pantry/store"
)

const smallRoom = 1 << 15

// P13.2, P13.3, P13.5, P13.9: however little room is left, a change is done wholly or not at all, and the store goes
// on: with more room the change may be done, and what was left may be taken away.
func TestFull(t *testing.T) {
	f0, a, b, c, before := base(t, smallRoom)
	step := 5
	if testing.Short() {
		step = 97
	}
	for _, x := range changes(a, b, c) {
		after := x.after(t, before)
		full := 0
		for free := 0; free < smallRoom-f0.Used(); free += step {
			f := f0.Copy()
			s := opened(t, f)
			fillRoom(t, f, free)
			e := x.do(s)
			if e == api.OK {
				has(t, s, after)
				has(t, opened(t, crashed(f, 0)), after)
				break
			}
			full++
			answers(t, e, api.ErrFull)
			isFull(t, f, s, x, before, after)
			if t.Failed() {
				t.Fatalf("%s, %d bytes are free", x.name, free)
			}
		}
		if x.name == "Add" && full == 0 {
			t.Error("it was never full")
		}
	}
}

// fillRoom lets a FS have so much room.
func fillRoom(t *testing.T, f *fs.FS, free int) {
	t.Helper()
	ok(t, f.Write("fill", make([]byte, smallRoom-f.Used()-free)))
	ok(t, f.Sync())
}

// isFull asks for what is to be behind an ErrFull.
func isFull(t *testing.T, f *fs.FS, s *store.Store, x change, before, after model) {
	t.Helper()
	has(t, s, before)
	for _, keep := range keeps(f, 12) {
		has(t, opened(t, crashed(f, keep)), before)
	}
	// What was to be registered is registered no more: nothing is left to be Committed.
	f.Fuse(0)
	answers(t, s.DB().Commit(), api.OK)
	f.Fuse(-1)
	ok(t, f.Remove("fill"))
	n, e := s.Clean()
	if n < 2 {
		t.Error(n)
	}
	answers(t, e, api.OK)
	holds(t, s, before)
	answers(t, x.do(s), api.OK)
	holds(t, s, after)
	holds(t, opened(t, crashed(f, 0)), after)
}

// P13.2, P13.3: of a FS that has no more names, or fewer than a tree has Files, likewise.
func TestFullNames(t *testing.T) {
	f0, s := empty(t)
	a := texted(t, s, "a", "a")
	before := model{}.with(info(a, file("a")), file("a"))
	fill(t, f0, 12)
	x := many(10)
	for free := range 13 {
		f := f0.Copy()
		s := opened(t, f)
		for i := range 12 - free {
			put(t, f, fmt.Sprint("more-", i), "")
		}
		p, e := s.AddTree(x, "x", []api.Path{a})
		if free >= 11 {
			has(t, s, before.with(info(p, x, a), x))
			continue
		}
		refuses(t, p, e, api.ErrFull)
		has(t, s, before)
		lists(t, s.Stray(), lies(sourceOf(t, x, "x", a), x)[:free]...)
		cleans(t, s, free)
		ok(t, f.Remove("fill-0"))
		ok(t, f.Remove("fill-1"))
		texted(t, s, "b", "b")
	}
}

// P13.2: a File that does not fit ends an add; the ones ahead of it stay, and are no path's.
func TestFullFile(t *testing.T) {
	f := disk(t, 2*api.MaxFile)
	s := opened(t, f)
	long := string(make([]byte, api.MaxFile))
	x := dir(entry{"a", file("small")}, entry{"b", file(long)}, entry{"c", file(long)}, entry{"d", file("small")})
	p, e := s.AddTree(x, "x", nil)
	refuses(t, p, e, api.ErrFull)
	p = sourceOf(t, x, "x")
	lists(t, s.Stray(), dataName(p, "a"), dataName(p, "b"))
	p, e = s.AddText([]byte(long), "x", nil)
	refuses(t, p, e, api.ErrFull)
	cleans(t, s, 2)
	texted(t, s, long, "x")
	if store.Written(s) != 4 {
		t.Error(store.Written(s))
	}
}

// P13.3: of more Infos than the DB has pages for, what Register refuses is refused ahead of all files.
func TestFullDB(t *testing.T) {
	f, s := empty(t)
	long := make([]string, maxSigs)
	for i := range long {
		long[i] = fmt.Sprintf("%d%0*d", i, maxSig-3, i)
	}
	var infos []api.Info
	var trees []api.Tree
	for i := range 200 {
		x := info(told(fmt.Sprint("p", i)), file("x"))
		x.Sigs = long
		infos, trees = append(infos, x), append(trees, file("x"))
	}
	stays(t, s, func() { answers(t, s.Add(infos, trees), api.ErrFull) })
	lists(t, s.DB().All())
	ok(t, s.Add(infos[:1], trees[:1]))
	f.Crash(0)
	holds(t, opened(t, f), model{}.with(infos[0], file("x")))
}
