package fs_test

import (
	"fmt"
	"math"
	"strings"
	"testing"

	"pantry/api"
	"pantry/fs"
)

// P7.1
func TestRooms(t *testing.T) {
	for _, room := range []int{0, 1, 2, 1 << 20, 1<<30 - 1, 1 << 30} {
		f := made(t, room)
		has(t, f, 0, nil)
		if first, n := f.Node("a"); first != "" || n != 0 {
			t.Errorf("Node of nothing: %q, %d", first, n)
		}
		if b, e := f.Read("a"); len(b) != 0 || e != api.ErrNone {
			t.Errorf("Read of nothing: %q, %v", b, e)
		}
	}
	for _, room := range []int{-1, -2, math.MinInt, 1<<30 + 1, 1 << 31, 1 << 40, math.MaxInt} {
		if f, e := fs.New(room); f != nil || e != api.ErrArg {
			t.Errorf("New(%d): %v, %v", room, f, e)
		}
	}
}

// P7.1: what is new has no fuse, and shares nothing with another one.
func TestNewHasNoFuse(t *testing.T) {
	f, g := made(t, 10), made(t, 10)
	for range 1000 {
		run(t, f, write("a", "x"), syncs())
	}
	has(t, f, 0, view{file("x", "a")})
	has(t, g, 0, nil)
}

// P7.1: what New did not make has nothing, and no room.
func TestFSOfItsOwn(t *testing.T) {
	var f fs.FS
	has(t, &f, 0, nil)
	answers(t, &f, remove("a"), api.ErrNone)
	answers(t, &f, write("a", "x"), api.ErrFull)
	run(t, &f, write("a", ""), link("a", "b"), syncs(), remove("a"))
	has(t, &f, 1, view{file("", "b")})
	f.Crash(0)
	has(t, &f, 0, view{file("", "a", "b")})
	var g fs.FS
	g.Crash(1)
	has(t, g.Copy(), 0, nil)
	run(t, g.Copy(), write("a", ""), syncs())
	g.Fuse(0)
	answers(t, &g, syncs(), api.ErrDead)
}

// The chapter's examples.
func TestExamples(t *testing.T) {
	f := made(t, 100)
	run(t, f, write("a", "x"), link("a", "b"), appends("b", "y"))
	has(t, f, 3, view{file("xy", "a", "b")})
	run(t, f, syncs(), write("a", "z"), remove("b"))
	f.Crash(1)
	has(t, f, 0, view{file("z", "a"), file("xy", "b")})
}

// P7.2: what each of the five does, step by step.
func TestThings(t *testing.T) {
	f := made(t, 100)
	steps := []struct {
		c    call
		want view
	}{
		{write("a", "one"), view{file("one", "a")}},
		{write("b", ""), view{file("one", "a"), file("", "b")}},
		{write("a", "two!"), view{file("two!", "a"), file("", "b")}},
		{link("a", "c"), view{file("two!", "a", "c"), file("", "b")}},
		{link("c", "d"), view{file("two!", "a", "c", "d"), file("", "b")}},
		{appends("c", "?"), view{file("two!?", "a", "c", "d"), file("", "b")}},
		{appends("b", "bb"), view{file("two!?", "a", "c", "d"), file("bb", "b")}},
		{appends("b", ""), view{file("two!?", "a", "c", "d"), file("bb", "b")}},
		{write("c", "three"), view{file("two!?", "a", "d"), file("bb", "b"), file("three", "c")}},
		{appends("d", "+"), view{file("two!?+", "a", "d"), file("bb", "b"), file("three", "c")}},
		{rename("b", "e"), view{file("two!?+", "a", "d"), file("bb", "e"), file("three", "c")}},
		{rename("e", "e"), view{file("two!?+", "a", "d"), file("bb", "e"), file("three", "c")}},
		{rename("a", "a"), view{file("two!?+", "a", "d"), file("bb", "e"), file("three", "c")}},
		{rename("e", "c"), view{file("two!?+", "a", "d"), file("bb", "c")}},
		{rename("c", "d"), view{file("two!?+", "a"), file("bb", "d")}},
		{link("a", "b"), view{file("two!?+", "a", "b"), file("bb", "d")}},
		{rename("a", "b"), view{file("two!?+", "b"), file("bb", "d")}},
		{link("b", "a"), view{file("two!?+", "a", "b"), file("bb", "d")}},
		{link("b", "z"), view{file("two!?+", "a", "b", "z"), file("bb", "d")}},
		{rename("z", "a"), view{file("two!?+", "a", "b"), file("bb", "d")}},
		{rename("a", "d"), view{file("two!?+", "b", "d")}},
		{remove("b"), view{file("two!?+", "d")}},
		{write("b", "b"), view{file("b", "b"), file("two!?+", "d")}},
		{remove("d"), view{file("b", "b")}},
		{remove("b"), nil},
		{write("b", "new"), view{file("new", "b")}},
	}
	for i, s := range steps {
		run(t, f, s.c)
		has(t, f, i+1, s.want)
	}
	if !t.Failed() {
		for keep := range len(steps) {
			g := f.Copy()
			g.Crash(keep + 1)
			has(t, g, 0, steps[keep].want)
		}
	}
}

// P7.2, P7.3: without anything else, one that changes nothing is a thing too.
func TestThingsThatChangeNothing(t *testing.T) {
	f := made(t, 1)
	run(t, f, write("a", "x"), write("a", "x"), appends("a", ""), rename("a", "a"))
	has(t, f, 4, view{file("x", "a")})
}

// P7.2: names of all bytes, of 1 to 300 bytes.
func TestNamesOfAllKinds(t *testing.T) {
	var names []string
	for b := range 256 {
		names = append(names, string([]byte{byte(b)}), string([]byte{'n', byte(b)}))
	}
	for _, n := range []int{2, 127, 128, 255, 256, 299, 300} {
		names = append(names, strings.Repeat("n", n), strings.Repeat("\x00", n), strings.Repeat("\xff", n))
	}
	for _, name := range names {
		f := made(t, 2)
		run(t, f, write("old", "x"), link("old", name), appends(name, "y"), remove("old"), rename(name, "old"), rename("old", name), write(name, "z"), link(name, "old"))
		has(t, f, 8, view{file("z", name, "old")})
		run(t, f, remove(name), syncs())
		has(t, f, 0, view{file("z", "old")})
	}
}

// wrongNames are none.
func wrongNames() []string {
	return []string{"", strings.Repeat("n", 301), strings.Repeat("\x00", 301), strings.Repeat("é", 151), strings.Repeat("n", 1<<16), strings.Repeat("n", 1<<24)}
}

// P7.2: what is no name is told ahead of all else but a burnt fuse.
func TestWrongNames(t *testing.T) {
	long := strings.Repeat("x", api.MaxFile+1)
	f := made(t, 3)
	run(t, f, write("a", "xyz"), syncs())
	for _, name := range wrongNames() {
		for _, c := range []call{
			write(name, ""), write(name, "x"), write(name, long),
			appends(name, ""), appends(name, "x"), appends(name, long), remove(name),
			link("a", name), link(name, "b"), link(name, "a"), link("none", name), link(name, name), link(name, "none"),
			rename("a", name), rename(name, "b"), rename(name, "a"), rename("none", name), rename(name, name), rename(name, "none"),
		} {
			answers(t, f, c, api.ErrName)
		}
		if b, e := f.Read(name); len(b) != 0 || e != api.ErrNone {
			t.Errorf("Read of no name: %q, %v", b, e)
		}
		if first, n := f.Node(name); first != "" || n != 0 {
			t.Errorf("Node of no name: %q, %d", first, n)
		}
		if name != "" && len(f.Names(name)) != 0 {
			t.Error("Names that begin with what is none")
		}
	}
	has(t, f, 0, view{file("xyz", "a")})
}

// P7.2, W4: which error is told where several hold.
func TestOrderOfErrors(t *testing.T) {
	long := strings.Repeat("x", api.MaxFile+1)
	f := made(t, 4)
	run(t, f, write("a", "xyz"), write("b", "."), syncs())
	for _, x := range []struct {
		c    call
		want api.Errno
	}{
		{write("a", long), api.ErrLong},
		{write("c", long), api.ErrLong},
		{write("c", "x"), api.ErrFull},
		{write("a", "12345"), api.ErrFull},
		{appends("c", long), api.ErrNone},
		{appends("c", "x"), api.ErrNone},
		{appends("c", ""), api.ErrNone},
		{appends("a", long), api.ErrLong},
		{appends("a", long[:api.MaxFile-2]), api.ErrLong},
		{appends("a", long[:api.MaxFile-3]), api.ErrFull},
		{appends("a", "x"), api.ErrFull},
		{link("c", "a"), api.ErrNone},
		{link("c", "c"), api.ErrNone},
		{link("c", "d"), api.ErrNone},
		{link("a", "b"), api.ErrHas},
		{link("a", "a"), api.ErrHas},
		{rename("c", "a"), api.ErrNone},
		{rename("c", "c"), api.ErrNone},
		{rename("c", "d"), api.ErrNone},
		{remove("c"), api.ErrNone},
	} {
		answers(t, f, x.c, x.want)
		has(t, f, 0, view{file("xyz", "a"), file(".", "b")})
		f.Fuse(0)
		answers(t, f, x.c, api.ErrDead)
		f.Fuse(-1)
	}
}

// P7.2, W3: what erred leaves nothing behind, whatever is called later.
func TestErrorsChangeNothing(t *testing.T) {
	f := made(t, 4)
	run(t, f, write("a", "xyz"), appends("a", "1"), syncs(), write("a", "x"))
	answers(t, f, write("a", "12345"), api.ErrFull)
	answers(t, f, appends("a", "2345"), api.ErrFull)
	answers(t, f, link("a", "a"), api.ErrHas)
	has(t, f, 1, view{file("x", "a")})
	run(t, f, appends("a", "abc"))
	has(t, f, 2, view{file("xabc", "a")})
	f.Crash(1)
	has(t, f, 0, view{file("x", "a")})
	f.Crash(0)
	has(t, f, 0, view{file("x", "a")})
}

// P7.2: files of MaxFile bytes, and one more.
func TestLongFiles(t *testing.T) {
	whole := strings.Repeat("0123456789abcdef", api.MaxFile/16)
	f := made(t, 4*api.MaxFile)
	run(t, f, write("a", whole), write("b", whole[1:]), write("c", ""))
	answers(t, f, write("a", whole+"x"), api.ErrLong)
	answers(t, f, write("d", whole+"x"), api.ErrLong)
	answers(t, f, appends("a", "x"), api.ErrLong)
	answers(t, f, appends("b", "xy"), api.ErrLong)
	answers(t, f, appends("c", whole+"x"), api.ErrLong)
	run(t, f, appends("a", ""), appends("b", "x"), appends("c", whole))
	answers(t, f, appends("b", "x"), api.ErrLong)
	answers(t, f, appends("c", "x"), api.ErrLong)
	has(t, f, 6, view{file(whole, "a"), file(whole[1:]+"x", "b"), file(whole, "c")})
	run(t, f, syncs())
	f.Crash(0)
	has(t, f, 0, view{file(whole, "a"), file(whole[1:]+"x", "b"), file(whole, "c")})
}

// P7.2: a file that grows byte by byte, and piece by piece.
func TestFilesThatGrow(t *testing.T) {
	f := made(t, api.MaxFile)
	run(t, f, write("a", ""), link("a", "b"))
	var want strings.Builder
	for i := range 3000 {
		piece := strings.Repeat(string(rune('a'+i%26)), i%5)
		run(t, f, appends([]string{"a", "b"}[i%2], piece))
		want.WriteString(piece)
	}
	has(t, f, 3002, view{file(want.String(), "a", "b")})
	f.Crash(2002)
	has(t, f, 0, view{file(want.String()[:4000], "a", "b")})
	run(t, f, appends("a", "end"))
	has(t, f, 1, view{file(want.String()[:4000]+"end", "a", "b")})
}

// P7.2: bytes that just fill the room; each file counts once.
func TestRoomIsFilled(t *testing.T) {
	f := made(t, 10)
	run(t, f, write("a", "12345"), write("b", "12345"))
	answers(t, f, write("c", "1"), api.ErrFull)
	answers(t, f, appends("a", "1"), api.ErrFull)
	run(t, f, write("c", ""), appends("a", ""), link("a", "d"), write("b", "1234"), appends("a", "6"))
	answers(t, f, appends("d", "1"), api.ErrFull)
	has(t, f, 7, view{file("123456", "a", "d"), file("1234", "b"), file("", "c")})
	// Another name keeps the old file: nothing is won by writing this one anew.
	answers(t, f, write("a", "1"), api.ErrFull)
	run(t, f, write("a", ""), remove("a"))
	// The last name gives its bytes back.
	run(t, f, write("d", "abcdef"))
	answers(t, f, write("d", "abcdefg"), api.ErrFull)
	run(t, f, remove("d"), write("e", "abcdef"), rename("e", "b"), write("c", "wxyz"))
	answers(t, f, appends("c", "1"), api.ErrFull)
	has(t, f, 14, view{file("abcdef", "b"), file("wxyz", "c")})
	run(t, f, write("c", "wxy"), rename("c", "b"), write("d", "1234567"))
	answers(t, f, write("x", "1"), api.ErrFull)
	has(t, f, 17, view{file("wxy", "b"), file("1234567", "d")})
}

// P7.2: a room of 0 holds as many files as there may be names, all of them empty.
func TestNoRoom(t *testing.T) {
	f := made(t, 0)
	answers(t, f, write("a", "x"), api.ErrFull)
	run(t, f, write("a", ""), appends("a", ""), link("a", "b"), rename("b", "c"))
	answers(t, f, appends("a", "x"), api.ErrFull)
	answers(t, f, write("a", "x"), api.ErrFull)
	has(t, f, 4, view{file("", "a", "c")})
}

// P7.2: what a crash undoes gives its bytes back, or takes them.
func TestRoomBehindCrash(t *testing.T) {
	f := made(t, 5)
	run(t, f, write("a", "123"), syncs(), write("b", "45"))
	answers(t, f, appends("b", "x"), api.ErrFull)
	f.Crash(0)
	run(t, f, appends("a", "xy"), syncs(), remove("a"), write("b", "12345"))
	f.Crash(0)
	has(t, f, 0, view{file("123xy", "a")})
	answers(t, f, write("b", "1"), api.ErrFull)
	run(t, f, write("a", "54321"))
}

// P7.2: as many names as there may be, and one more.
func TestManyNames(t *testing.T) {
	f := made(t, 1<<20)
	name := func(i int) string { return fmt.Sprintf("%08d", i) }
	for i := range api.MaxNames {
		if i%2 == 0 {
			run(t, f, write(name(i), "x"))
		} else {
			run(t, f, link(name(i-1), name(i)))
		}
	}
	for range 2 {
		answers(t, f, write("more", ""), api.ErrFull)
		answers(t, f, write("more", "x"), api.ErrFull)
		answers(t, f, write("more", strings.Repeat("x", api.MaxFile+1)), api.ErrLong)
		answers(t, f, link(name(5), "more"), api.ErrFull)
		answers(t, f, link("none", "more"), api.ErrNone)
		answers(t, f, link(name(5), name(6)), api.ErrHas)
		if n := len(f.Names("")); n != api.MaxNames || f.Used() != api.MaxNames/2 {
			t.Errorf("%d names, used %d", n, f.Used())
		}
		f.Crash(1 << 20)
	}
	run(t, f, write(name(0), "yy"), appends(name(1), "z"), rename(name(2), "more"), syncs())
	answers(t, f, write(name(2), ""), api.ErrFull)
	answers(t, f, link("more", name(2)), api.ErrFull)
	run(t, f, remove("more"), link(name(0), name(2)))
	answers(t, f, write("more", ""), api.ErrFull)
	run(t, f, rename(name(2), name(0)), write("more", ""))
	answers(t, f, write("most", ""), api.ErrFull)
	if first, n := f.Node(name(0)); first != name(0) || n != 1 || f.Used() != api.MaxNames/2+3 {
		t.Error(first, n, f.Used())
	}
	f.Crash(0)
	answers(t, f, write(name(2), ""), api.ErrFull)
	if first, n := f.Node("more"); first != name(3) || n != 2 {
		t.Error(first, n)
	}
}

// P7.2: a file with as many names as there may be.
func TestOneFileWithManyNames(t *testing.T) {
	f := made(t, 3)
	name := func(i int) string { return fmt.Sprintf("%08d", i) }
	run(t, f, write(name(api.MaxNames-1), "xyz"), syncs())
	for i := api.MaxNames - 2; i >= 0; i-- {
		run(t, f, link(name(i+1), name(i)))
	}
	for _, i := range []int{0, 1, api.MaxNames / 2, api.MaxNames - 1} {
		if first, n := f.Node(name(i)); first != name(0) || n != api.MaxNames {
			t.Error(i, first, n)
		}
	}
	run(t, f, syncs())
	answers(t, f, write("a", ""), api.ErrFull)
	answers(t, f, write(name(7), "x"), api.ErrFull)
	for i := range api.MaxNames - 1 {
		run(t, f, remove(name(i)))
		if f.Used() != 3 {
			t.Fatal(i, f.Used())
		}
	}
	has(t, f, api.MaxNames-1, view{file("xyz", name(api.MaxNames-1))})
	f.Crash(api.MaxNames - 3)
	has(t, f, 0, view{file("xyz", name(api.MaxNames-3), name(api.MaxNames-2), name(api.MaxNames-1))})
}

// P7.1, P7.2: the greatest room, filled to its last byte.
func TestGreatestRoom(t *testing.T) {
	if testing.Short() {
		t.Skip("it takes a gigabyte")
	}
	whole := make([]byte, api.MaxFile)
	f := made(t, 1<<30)
	for i := range 1 << 10 {
		if e := f.Write(fmt.Sprint(i), whole); e != api.OK {
			t.Fatal(i, e)
		}
	}
	if f.Used() != 1<<30 {
		t.Error(f.Used())
	}
	run(t, f, syncs())
	answers(t, f, write("more", "x"), api.ErrFull)
	run(t, f, write("more", ""))
	answers(t, f, appends("more", "x"), api.ErrFull)
	answers(t, f, appends("5", "x"), api.ErrLong)
	run(t, f, remove("5"), write("more", string(whole)))
	if f.Used() != 1<<30 {
		t.Error(f.Used())
	}
	f.Crash(0)
	if n := len(f.Names("")); n != 1<<10 || f.Used() != 1<<30 {
		t.Error(n, f.Used())
	}
}
