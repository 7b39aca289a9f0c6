package store_test

import (
	"fmt"
	"slices"
	"strconv"
	"strings"
	"sync"
	"sync/atomic"
	"testing"

	"pantry/api"
	"pantry/fs"
	"pantry/store"
)

// exercised calls all that there is, whatever it answers.
func exercised(s *store.Store, paths ...api.Path) {
	all := append(s.DB().All(), paths...)
	for i, p := range all {
		x, _ := s.Tree(p)
		s.Verify(p)
		s.AddTree(x, "x", all[:i])
		s.AddText(x.Data, "x", all[:i])
		info, _ := s.DB().Get(p)
		s.Add([]api.Info{info, {Path: told("new"), Hash: info.Hash, Size: info.Size}}, []api.Tree{x, x})
		s.Delete(all[i:])
	}
	s.Stray()
	s.Optimise()
	s.Clean()
	s.Delete(s.DB().All())
	s.FS().Names("")
}

// W1, P0.8: files of somebody else, and bytes that were changed, make nothing panic, and all ends; a path of which
// Verify is OK has its tree.
func TestBytesOfOthers(t *testing.T) {
	f0, a, b, c, want := base(t, room)
	dice := dice()
	for range rounds(400) {
		f := f0.Copy()
		names := f.Names("")
		for range 1 + dice.IntN(3) {
			name := names[dice.IntN(len(names))]
			data, _ := f.Read(name)
			switch {
			case dice.IntN(4) == 0:
				f.Remove(name)
			case dice.IntN(4) == 0:
				f.Write(name, data[:dice.IntN(len(data)+1)])
			case dice.IntN(4) == 0:
				f.Rename(name, names[dice.IntN(len(names))])
			case len(data) > 0:
				data[dice.IntN(len(data))] ^= 1 << dice.IntN(8)
				f.Write(name, data)
			}
		}
		s, e := store.Open(f)
		if e != api.OK {
			continue
		}
		for _, p := range want.all() {
			x, e := s.DB().Get(p)
			if e == api.OK && same(x, want[p].Info) && s.Verify(p) == api.OK {
				y, e := s.Tree(p)
				if i := info(p, y); e != api.OK || i.Hash != x.Hash || i.Size != x.Size {
					t.Error(p, y, e)
				}
			}
		}
		exercised(s, a, b, c, "no", "")
	}
}

// P13.4, W1: skeletons of others, with Files at places that are too long for a name, or without an end.
func TestSkeletonsOfOthers(t *testing.T) {
	f, s := empty(t)
	p := told("p")
	long := strings.Repeat("n", 100)
	ok(t, s.DB().Register([]api.Info{info(p, file("x"))}))
	for _, x := range []api.Tree{
		at(long+"/"+long+"/"+long, file("")),
		at(strings.Repeat(long+"/", api.MaxDeep-2)+long, file("")),
		bare(many(4000)),
		bare(deep(api.MaxDeep-1, two("1", "2"))),
	} {
		b := skeleton(x)
		put(t, f, skeletonName(p), string(b))
		answers(t, s.Verify(p), api.ErrForm)
		optimises(t, s, 0)
		for n := range 40 {
			put(t, f, skeletonName(p), string(b[:len(b)*n/40]))
			answers(t, s.Verify(p), api.ErrForm)
		}
	}
}

// W9: others Crash the FS meanwhile, and ask, Sync and Fuse it: nothing panics, whatever is answered.
func TestCrashedMeanwhile(t *testing.T) {
	f, _, _, _, _ := base(t, room)
	var all sync.WaitGroup
	var ended atomic.Bool
	often := rounds(150)
	all.Go(func() {
		defer ended.Store(true)
		// A burnt fuse lets none be opened, till the next Crash.
		for tries, i := 0, 0; i < often && tries < often*1000; tries++ {
			s, e := store.Open(f)
			if e != api.OK {
				continue
			}
			i++
			for n := range 4 {
				s.AddTree(two(fmt.Sprint(n), "1"), fmt.Sprint("x", i%3), nil)
			}
			exercised(s)
		}
	})
	all.Go(func() {
		for i := 0; !ended.Load(); i++ {
			f.Sync()
			f.Fuse(i%40 - 1)
			if i%5 == 0 {
				f.Crash(i % 4)
			}
			f.Names("")
			f.Node("o")
		}
	})
	all.Wait()
	f.Crash(0)
	if s, e := store.Open(f); e == api.OK {
		exercised(s)
	}
}

// between asks for the texts 1, 2 and so on, so many of them as were added at least and at most.
func between(t *testing.T, f *fs.FS, least, most int64) {
	t.Helper()
	s, e := store.Open(f)
	if e != api.OK {
		t.Errorf("Open: %v", e)
		return
	}
	all := s.DB().All()
	if n := int64(len(all)); n < least || n > most {
		t.Errorf("%d paths, not %d to %d", n, least, most)
	}
	for i := range all {
		p := textOf(t, strconv.Itoa(i+1), "x")
		if e := s.Verify(p); e != api.OK {
			t.Errorf("Verify(%q): %v", p, e)
		}
	}
}

// W9, P13.9: others ask, Sync and Fuse the FS meanwhile, and Crash copies of it, but not the FS itself: there is what
// was answered OK, and of what erred all or nothing.
func TestOthersMeanwhile(t *testing.T) {
	for i := range rounds(60) {
		f := disk(t, room)
		var tried, done atomic.Int64
		var all sync.WaitGroup
		all.Go(func() {
			for n := range 10 {
				f.Sync()
				f.Names("")
				least := done.Load()
				c := f.Copy()
				most := tried.Load()
				c.Crash(n % 4)
				between(t, c, least, most)
			}
			f.Fuse(i % 9)
		})
		s, e := store.Open(f)
		for n := 1; e == api.OK && n <= 60; n++ {
			tried.Store(int64(n))
			if _, e = s.AddText([]byte(strconv.Itoa(n)), "x", nil); e == api.OK {
				done.Store(int64(n))
			}
		}
		all.Wait()
		if e != api.OK {
			answers(t, e, api.ErrDead)
		}
		f.Crash(i % 4)
		between(t, f, done.Load(), tried.Load())
	}
}

// P13.10: two stores of copies of a FS share nothing.
func TestCopies(t *testing.T) {
	f, _, _, c, want := base(t, room)
	both := []*fs.FS{f.Copy(), f.Copy()}
	x := map[int]api.Tree{0: file("0"), 1: file("1")}
	for i, g := range both {
		s := opened(t, g)
		ok(t, s.Delete([]api.Path{c}))
		ok(t, s.Add([]api.Info{info(told("x"), x[i])}, []api.Tree{x[i]}))
		s.Optimise()
		cleans(t, s, 3)
	}
	for i, g := range both {
		holds(t, opened(t, g), want.without(c).with(info(told("x"), x[i]), x[i]))
	}
	if l := opened(t, f).DB().All(); !slices.Equal(l, want.all()) {
		t.Error(l)
	}
}
