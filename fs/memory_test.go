package fs_test

import (
	"fmt"
	"slices"
	"strings"
	"sync"
	"testing"
	"unsafe"

	"pantry/api"
	"pantry/fs"
)

// P7.7, W6: bytes that are handed in stay, with the room behind them, and are not kept.
func TestBytesAreNotKept(t *testing.T) {
	f := made(t, 1000)
	b, c := room("12345", "behind"), room("67", "behind")
	f.Write("a", b)
	f.Append("a", c)
	f.Append("a", nil)
	f.Write("b", b[:0])
	f.Append("b", b)
	f.Write("c", nil)
	if string(b[:cap(b)]) != "12345behind" || string(c[:cap(c)]) != "67behind" {
		t.Errorf("what was handed in is %q, %q", b[:cap(b)], c[:cap(c)])
	}
	want := view{file("1234567", "a"), file("12345", "b"), file("", "c")}
	clear(b[:cap(b)])
	clear(c[:cap(c)])
	has(t, f, 6, want)
	run(t, f, appends("a", "89"), appends("b", "6"))
	if strings.Trim(string(b[:cap(b)])+string(c[:cap(c)]), "\x00") != "" {
		t.Error("something is laid into what was handed in")
	}
	f.Crash(6)
	has(t, f, 0, want)
}

// borrowed is a text whose bytes may be changed behind it.
func borrowed(s string) (string, []byte) {
	b := []byte(s)
	return unsafe.String(unsafe.SliceData(b), len(b)), b
}

// P7.7, W6: names that are handed in are not kept either, as long as things are pending, and when they last.
func TestNamesAreNotKept(t *testing.T) {
	for _, last := range []bool{false, true} {
		f, m := made(t, 100), newModel(100)
		for _, c := range story() {
			want := m.done(c)
			lent := c
			var old, name []byte
			lent.old, old = borrowed(c.old)
			lent.name, name = borrowed(c.name)
			answers(t, f, lent, want)
			clear(old)
			clear(name)
			if !same(t, f, m) {
				t.Fatalf("%v: a name is kept", c)
			}
		}
		g := f.Copy()
		if last {
			run(t, f, syncs())
		}
		f.Crash(1 << 20)
		if told(f) != toldView(m.now(), 0) {
			t.Errorf("a name is kept: %s", told(f))
		}
		sameBehindCrashes(t, g, m)
	}
}

// P7.7: what is asked for by a text is not kept, nor answered.
func TestAskedNamesAreNotAnswered(t *testing.T) {
	f := made(t, 100)
	run(t, f, write("ab", "x"), write("c", "x"), link("c", "d"))
	for _, name := range []string{"ab", "c", "d"} {
		lent, b := borrowed(name)
		first, _ := f.Node(lent)
		names := f.Names(lent)
		want := strings.Clone(first)
		clear(b)
		if first != want || !slices.Equal(names, []string{name}) {
			t.Errorf("an answer shares memory with %q: %q, %q", name, first, names)
		}
	}
}

// P7.7, W6: what is answered shares nothing with another answer, nor with what the FS has.
func TestAnswersAreNewMemory(t *testing.T) {
	f := made(t, 1000)
	run(t, f, write("a", "12345"), appends("a", "6"), link("a", "b"), write("c", strings.Repeat("x", 100)), syncs(), write("d", ""), appends("c", "y"))
	g := f.Copy()
	var all []span
	for range 2 {
		for _, h := range []*fs.FS{f, g} {
			names := h.Names("")
			all = append(all, listSpan(names))
			for _, name := range names {
				b, _ := h.Read(name)
				first, _ := h.Node(name)
				all = append(all, textSpan(name), spanOf(b), textSpan(first))
			}
		}
	}
	if meetItself(all) {
		t.Error("answers share memory")
	}
}

// P7.7, W6: what becomes of an answer is not seen in the FS, nor what becomes of the FS in an answer.
func TestAnswersStay(t *testing.T) {
	f := made(t, 1000)
	run(t, f, write("a", "12345"), syncs(), appends("a", "6"), link("a", "b"), write("c", strings.Repeat("x", 50)))
	m := newModel(1000)
	m.views[0] = view{file("12345", "a")}
	for _, c := range []call{appends("a", "6"), link("a", "b"), write("c", strings.Repeat("x", 50))} {
		m.done(c)
	}
	for _, name := range []string{"a", "b", "c"} {
		b, _ := f.Read(name)
		b = b[:cap(b)]
		for i := range b {
			b[i] = '!'
		}
		first, _ := f.Node(name)
		names := f.Names("")
		for _, s := range append(slices.Clone(names), first) {
			overwrite(s)
		}
		clear(names[:cap(names)])
	}
	same(t, f, m)
	sameBehindCrashes(t, f, m)
	b, _ := f.Read("a")
	names := f.Names("")
	run(t, f, appends("a", "7"), write("a", "other"), rename("c", "b"), remove("a"), syncs())
	f.Crash(0)
	if string(b) != "123456" || !slices.Equal(names, []string{"a", "b", "c"}) {
		t.Errorf("what was answered is %q, %q", b, names)
	}
}

// overwrite changes a text's own memory.
func overwrite(s string) {
	b := unsafe.Slice(unsafe.StringData(s), len(s))
	for i := range b {
		b[i] = '!'
	}
}

// W9: what works with a FS goes on while others ask, Sync, Fuse and Crash it.
func TestManyGoroutines(t *testing.T) {
	f := made(t, 1<<20)
	run(t, f, write("stays", "1"), link("stays", "stays too"), syncs())
	var group sync.WaitGroup
	often := rounds(2000)
	group.Go(func() {
		for i := range often {
			name := fmt.Sprint(i % 20)
			f.Write(name, []byte(name))
			f.Link(name, name+".")
			f.Append(name+".", []byte("x"))
			f.Rename(name+".", name)
			if i%3 == 0 {
				f.Remove(name)
			}
		}
	})
	group.Go(func() {
		for i := range often {
			f.Sync()
			f.Fuse(i%40 - 1)
			f.Crash(i % 5)
		}
	})
	for range 3 {
		group.Go(func() {
			for i := range often {
				asked(t, f)
				if i%50 == 0 {
					asked(t, f.Copy())
				}
			}
		})
	}
	group.Wait()
	f.Crash(0)
	run(t, f, write("a", ""), syncs())
	asked(t, f)
}

// W9: each call beside each other one, with no third between them by which they could wait for one another.
func TestPairsOfGoroutines(t *testing.T) {
	all := []func(f *fs.FS){
		func(f *fs.FS) { f.Write("a", []byte("x")) },
		func(f *fs.FS) { f.Append("a", []byte("x")) },
		func(f *fs.FS) { f.Link("a", "b") },
		func(f *fs.FS) { f.Rename("a", "c") },
		func(f *fs.FS) { f.Remove("a") },
		func(f *fs.FS) { f.Read("a") },
		func(f *fs.FS) { f.Names("") },
		func(f *fs.FS) { f.Node("a") },
		func(f *fs.FS) { f.Fuse(3) },
		func(f *fs.FS) { f.Sync() },
		func(f *fs.FS) { f.Crash(1) },
		func(f *fs.FS) { f.Pending() },
		func(f *fs.FS) { f.Used() },
		func(f *fs.FS) { f.Copy() },
	}
	for _, one := range all {
		for _, other := range all {
			f := made(t, 100)
			run(t, f, write("a", "0"), syncs(), appends("a", "1"), write("z", ""))
			var group sync.WaitGroup
			group.Go(func() { one(f) })
			group.Go(func() { other(f) })
			group.Wait()
			if b, e := f.Read("z"); len(b) != 0 || e != api.OK && e != api.ErrNone {
				t.Errorf("%q, %v", b, e)
			}
		}
	}
}

// asked asks all of a FS in which a file with two names is not touched.
func asked(t *testing.T, f *fs.FS) {
	b, e := f.Read("stays too")
	first, n := f.Node("stays too")
	names := f.Names("stays")
	if string(b) != "1" || e != api.OK || first != "stays" || n != 2 || len(names) != 2 || f.Used() < 1 || f.Pending() < 0 {
		t.Errorf("%q, %v, %q, %d, %q", b, e, first, n, names)
	}
}

// P7.5, W9: a FS and its copies share nothing that one of them changes, so that each may be used by a goroutine of its own.
func TestCopiesByMany(t *testing.T) {
	f := made(t, 1<<20)
	run(t, f, write("a", "12345"), syncs(), appends("a", "6"), link("a", "b"), write("c", ""))
	all := []*fs.FS{f}
	for range 4 {
		all = append(all, all[len(all)-1].Copy())
	}
	var group sync.WaitGroup
	for i, g := range all {
		group.Go(func() {
			for range rounds(300) {
				g.Append("b", []byte{byte('0' + i)})
				g.Read("a")
				g.Copy().Crash(2)
			}
			g.Sync()
			g.Remove("a")
			g.Crash(i % 2)
		})
	}
	group.Wait()
	for i, g := range all {
		want := view{file("123456"+strings.Repeat(fmt.Sprint(i), rounds(300)), "a", "b"), file("", "c")}
		if i%2 == 1 {
			want[0].names = []string{"b"}
		}
		has(t, g, 0, want)
	}
}
