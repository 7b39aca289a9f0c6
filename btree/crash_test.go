package btree_test

import (
	"fmt"
	"testing"

	"pantry/api"
	"pantry/btree"
	"pantry/fs"
)

// change is a Commit that is tried with a fuse at each place, and each crash behind it.
type change struct {
	name  string
	base  *fs.FS // it is copied, and stays
	do    func(t *testing.T, x *btree.Tree)
	heavy bool // it is tried at some places only, if it is to be short
}

// few gives some keys other values, takes one away and adds some.
func few(t *testing.T, x *btree.Tree) {
	t.Helper()
	i := 0
	for k := range x.Range("") {
		switch i % 100 {
		case 0:
			put(t, x, k, "few")
		case 1:
			ok(t, x.Delete(k))
		case 2:
			put(t, x, k, sized(1000))
		}
		i++
	}
	puts(t, x, of("one", "1", "two", sized(600), "three", ""))
}

// lots changes more than goes into a journal at once.
func lots(t *testing.T, x *btree.Tree) {
	t.Helper()
	few(t, x)
	for i := range 12 {
		put(t, x, fmt.Sprint("lots", i), sized(api.MaxValue-i))
	}
}

// none takes all keys away.
func none(t *testing.T, x *btree.Tree) {
	t.Helper()
	for k := range x.Range("") {
		ok(t, x.Delete(k))
	}
}

// parts puts so many keys that all nodes part, and the root, too.
func parts(t *testing.T, x *btree.Tree) {
	t.Helper()
	puts(t, x, many(700, 30, 60))
}

// changes is what is tried.
func changes(t *testing.T) []change {
	t.Helper()
	nothing := disk(t, 1<<24)
	one, _ := made(t, 1<<24, of("a", "1"))
	some, x := made(t, 1<<24, many(400, 50, 50))
	few(t, x)
	ok(t, x.Commit())
	deep, _ := made(t, 1<<24, many(1500, 90, 10))
	wide, x := made(t, 1<<24, nil)
	lots(t, x)
	ok(t, x.Commit())
	return []change{
		{"first", nothing, few, false},
		{"behind one", one, few, false},
		{"the last one goes", one, none, false},
		{"nodes part", one, parts, false},
		{"a few of some", some, few, false},
		{"all of some go", some, none, false},
		{"nodes part of some", some, parts, false},
		{"a few of a deep one", deep, few, true},
		{"all of a deep one go", deep, none, true},
		{"lots first", nothing, lots, true},
		{"lots behind some", some, lots, true},
		{"a few behind lots", wide, few, true},
		{"all of lots go", wide, none, true},
	}
}

// P10.4, P10.6: a fuse that burns at each place of a Commit, and each crash behind it.
func TestFuseAtEachPlace(t *testing.T) {
	for _, c := range changes(t) {
		t.Run(c.name, func(t *testing.T) {
			step := 1
			if c.heavy && testing.Short() {
				step = 7
			}
			before := told(t, opened(t, c.base.Copy()))
			for fuse := 0; ; fuse += step {
				f := c.base.Copy()
				x := opened(t, f)
				c.do(t, x)
				after := told(t, x)
				f.Fuse(fuse)
				e := x.Commit()
				if e == api.OK {
					lasts(t, f, after)
					if fuse == 0 {
						t.Error("nothing is done")
					}
					return
				}
				answers(t, e, api.ErrDead)
				dead(t, x, after)
				x.Drop()
				dead(t, x, before)
				behindCrashes(t, f, before, after)
			}
		})
	}
}

// behindCrashes asks for all of a change or nothing behind each crash, and whether all works from there on.
func behindCrashes(t *testing.T, f *fs.FS, before, after list) {
	t.Helper()
	for i, keep := range append(keeps(f, 9), -1) {
		g := f.Copy()
		if keep >= 0 {
			g.Crash(keep)
		}
		x := opened(t, g)
		got := told(t, x)
		if !got.same(after) && !got.same(before) {
			t.Fatalf("behind Crash(%d) it tells %v", keep, got)
		}
		if len(got) > 1000 && i%3 > 0 {
			continue
		}
		for i := range 3 {
			k := fmt.Sprint("goes on ", i)
			put(t, x, k, sized(400*i))
			got[k] = sized(400 * i)
			ok(t, x.Commit())
		}
		tells(t, x, got)
		lasts(t, g, got)
	}
}

// tale is a tree that is used at random, and what is known of it.
type tale struct {
	f     *fs.FS
	x     *btree.Tree
	now   list
	last  list
	dead  bool
	maybe list // what is there too, if the last Commit erred
	full  bool // the FS has no room
}

const taleRoom = 1 << 22

// step is a call at random, with what it is to answer.
func (s *tale) step(t *testing.T, kind, n, size int) {
	t.Helper()
	k := key(n%300, 6+n%180)
	switch {
	case kind < 40:
		s.puts(t, k, sized(size%120))
	case kind < 50:
		s.puts(t, k, sized(size%3000))
	case kind < 52:
		s.puts(t, k, sized(size*50%api.MaxValue))
	case kind < 75:
		// One that is there, if there is one.
		for next := range s.x.Range(k) {
			k = next
			break
		}
		s.deletes(t, k)
	case kind < 85:
		s.commits(t)
	case kind < 88:
		s.x.Drop()
		s.now = s.last
	case kind < 91:
		s.f.Fuse(size % 8)
	case kind < 94:
		s.fills(size)
	default:
		s.again(t, size)
	}
}

func (s *tale) puts(t *testing.T, k, value string) {
	t.Helper()
	e := s.x.Put(k, []byte(value))
	if s.dead {
		answers(t, e, api.ErrDead)
		return
	}
	answers(t, e, api.OK)
	s.now = s.now.with(k, value)
}

func (s *tale) deletes(t *testing.T, k string) {
	t.Helper()
	e := s.x.Delete(k)
	_, there := s.now[k]
	switch {
	case s.dead:
		answers(t, e, api.ErrDead)
	case !there:
		answers(t, e, api.ErrNone)
	default:
		answers(t, e, api.OK)
		s.now = s.now.with(k, "")
		delete(s.now, k)
	}
}

func (s *tale) commits(t *testing.T) {
	t.Helper()
	e := s.x.Commit()
	switch {
	case s.dead:
		answers(t, e, api.ErrDead)
	case e == api.OK:
		s.last = s.now
	case e == api.ErrFull:
		if !s.full {
			t.Error("there is room")
		}
	default:
		answers(t, e, api.ErrDead)
		s.dead, s.maybe = true, s.now
	}
}

// fills takes the room of the FS, or gives it back.
func (s *tale) fills(size int) {
	for _, name := range s.f.Names("filler") {
		s.f.Remove(name)
	}
	for i := 0; size%2 == 0 && s.f.Used()+size < taleRoom && i < 20; i++ {
		s.f.Write(fmt.Sprint("filler", i), make([]byte, min(taleRoom-s.f.Used()-size, api.MaxFile)))
	}
	// With a burnt fuse some may have stayed.
	s.full = len(s.f.Names("filler")) > 0
}

// again opens the tree anew, behind a crash or without one.
func (s *tale) again(t *testing.T, keep int) {
	t.Helper()
	if keep%3 == 0 {
		s.f.Fuse(-1)
	} else {
		s.f.Crash(keep % 50)
	}
	s.x = opened(t, s.f)
	got := told(t, s.x)
	if !got.same(s.last) && !(s.dead && got.same(s.maybe)) {
		t.Errorf("it tells %v, want %v or %v", got, s.last, s.maybe)
	}
	s.now, s.last, s.dead = got, got, false
	s.full = len(s.f.Names("filler")) > 0
}

// P10.2 to P10.6, at random.
func TestTales(t *testing.T) {
	r := dice()
	for i := range rounds(60) {
		s := &tale{f: disk(t, taleRoom), now: list{}, last: list{}}
		s.x = opened(t, s.f)
		for n := range 600 {
			s.step(t, r.IntN(100), r.IntN(1<<20), r.IntN(1<<20))
			if n%10 == 0 {
				tells(t, s.x, s.now)
			}
			if s.x.Len() != len(s.now) {
				t.Errorf("%d keys, want %d", s.x.Len(), len(s.now))
			}
			if t.Failed() {
				t.Fatalf("tale %d, step %d", i, n)
			}
		}
	}
}
