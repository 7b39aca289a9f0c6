package journal_test

import (
	"slices"
	"strings"
	"testing"

	"pantry/api"
	"pantry/fs"
)

// small is a journal in one file, and where its groups end there.
func small(t *testing.T) (all groups, data string, ends []int) {
	t.Helper()
	f := disk(t, 1<<20)
	j := opened(t, f)
	all = groups{{"a"}, {"bc", ""}, {""}, {"a"}, {"", "", "defg", "h"}}
	for _, records := range all {
		commit(t, j, records...)
		ends = append(ends, len(read(t, f, "j")))
	}
	if names := f.Names(""); len(names) != 1 {
		t.Fatalf("it lies in %q", names)
	}
	return all, read(t, f, "j"), ends
}

// whole is how many groups end at a place or ahead of it.
func whole(ends []int, at int) int {
	n := 0
	for n < len(ends) && ends[n] <= at {
		n++
	}
	return n
}

// goesOn asks a FS with damaged files for the groups that are left, and whether all works from there on.
func goesOn(t *testing.T, f *fs.FS, left groups) {
	t.Helper()
	ok(t, f.Sync())
	before := state(f)
	j := opened(t, f)
	tells(t, j, left)
	if state(f) != before {
		t.Error("Open changed something")
	}
	resets := f.Copy()
	add(t, j, "new", "")
	tells(t, j, left)
	if left.full() {
		answers(t, j.Commit(), api.ErrFull)
	} else {
		ok(t, j.Commit())
		left = left.with([]string{"new", ""})
		if len(left) < 10 && state(f) != fresh(t, left) {
			t.Error("something is left in the files, or they are others than they were to be")
		}
	}
	tells(t, j, left)
	lasts(t, f, left)
	if !left.full() {
		commit(t, j, "newer")
		lasts(t, f, left.with([]string{"newer"}))
	}
	ok(t, j.Reset())
	lasts(t, f, nil)
	if f.Used() != 0 {
		t.Errorf("%d bytes are left", f.Used())
	}
	j = opened(t, resets)
	ok(t, j.Reset())
	tells(t, j, nil)
	lasts(t, resets, nil)
	if resets.Used() != 0 {
		t.Errorf("%d bytes are left", resets.Used())
	}
	commit(t, j, "new")
	lasts(t, resets, of("new"))
}

// P8.1: other bytes under the name count as none.
func TestOtherBytes(t *testing.T) {
	_, own, ends := small(t)
	for _, data := range []string{
		"", "x", "\x00", "\x00\x00\x00", strings.Repeat("\x00", 1000), strings.Repeat("\xff", 1000), sized(1 << 20),
		"\x00\x00\x01", "\x00\x00\x01\x00\x00\x00", "\x00\x00\x01\xff\xff\xff" + sized(100), "\xff\xff\xff" + strings.Repeat("\x00", 1000),
		own[1:], "x" + own, own[ends[0]:], strings.ToUpper(own), own[:ends[0]-1],
	} {
		goesOn(t, holding(t, "j", data), nil)
	}
	// Nor is anything found in files beside it.
	for _, name := range []string{"j.", "j.j", "j.part", "jj", "j2", "i"} {
		f := holding(t, name, own)
		j := opened(t, f)
		tells(t, j, nil)
		commit(t, j, "x")
		lasts(t, f, of("x"))
		ok(t, j.Reset())
		if !strings.HasPrefix(name, "j.") && read(t, f, name) != own {
			t.Errorf("%q was changed", name)
		}
	}
}

// P8.1: a file that is cut anywhere has the groups that are whole.
func TestCutAnywhere(t *testing.T) {
	all, data, ends := small(t)
	for n := range len(data) + 1 {
		goesOn(t, holding(t, "j", data[:n]), all[:whole(ends, n)])
	}
}

// P8.1: a file in which a byte is another one has the groups ahead of that.
func TestChangedAnywhere(t *testing.T) {
	all, data, ends := small(t)
	for i := range len(data) {
		for _, x := range []byte{1, 0x80, 0xff} {
			b := []byte(data)
			b[i] ^= x
			goesOn(t, holding(t, "j", string(b)), all[:whole(ends, i)])
		}
	}
}

// P8.1: likewise one that lacks a byte, or has one more.
func TestShiftedAnywhere(t *testing.T) {
	all, data, ends := small(t)
	for i := range len(data) {
		less := data[:i] + data[i+1:]
		more := data[:i] + "\x01" + data[i:]
		for _, b := range []string{less, more} {
			same := 0
			for same < len(b) && b[same] == data[same] {
				same++
			}
			goesOn(t, holding(t, "j", b), all[:whole(ends, same)])
		}
	}
}

// P8.1: what stands behind groups changes nothing of them.
func TestBytesBehind(t *testing.T) {
	all, data, ends := small(t)
	for _, behind := range []string{"x", "\x00", strings.Repeat("\x00", 100), sized(1000), data, data[:ends[0]], data[ends[3]:], sized(1<<20 - len(data))} {
		goesOn(t, holding(t, "j", data+behind), all)
	}
}

// P8.1: groups count in the order in which they were committed alone.
func TestGroupsAtOtherPlaces(t *testing.T) {
	all, data, ends := small(t)
	var pieces []string
	from := 0
	for _, end := range ends {
		pieces = append(pieces, data[from:end])
		from = end
	}
	for i := range pieces {
		goesOn(t, holding(t, "j", strings.Join(slices.Delete(slices.Clone(pieces), i, i+1), "")), all[:i])
		goesOn(t, holding(t, "j", strings.Join(slices.Insert(slices.Clone(pieces), i, pieces[i]), "")), all[:i+1])
		for k := range i {
			swapped := slices.Clone(pieces)
			swapped[i], swapped[k] = swapped[k], swapped[i]
			goesOn(t, holding(t, "j", strings.Join(swapped, "")), all[:k])
		}
	}
}

// P8.1: one journal's group is none of another journal's, though both have been committed behind as many bytes.
func TestGroupsOfOthers(t *testing.T) {
	_, data, ends := small(t)
	f := disk(t, 1<<20)
	j := opened(t, f)
	commit(t, j, "b")
	mixed := read(t, f, "j") + data[ends[0]:]
	goesOn(t, holding(t, "j", mixed), of("b"))
}

// P8.1: files of a journal that lies in several ones may be gone, or have other bytes.
func TestSeveralFiles(t *testing.T) {
	f := disk(t, 1<<23)
	j := opened(t, f)
	for _, records := range pair() {
		commit(t, j, records...)
	}
	names := f.Names("")
	if len(names) != 2 {
		t.Fatalf("it lies in %q", names)
	}
	for i, name := range names {
		data := read(t, f, name)
		for _, other := range []string{"", "x" + data[1:], data[:len(data)-1], data[1:], sized(100)} {
			c := f.Copy()
			ok(t, c.Write(name, []byte(other)))
			goesOn(t, c, pair()[:i])
		}
		c := f.Copy()
		ok(t, c.Remove(name))
		goesOn(t, c, pair()[:i])
		c = f.Copy()
		ok(t, c.Append(name, []byte("x")))
		goesOn(t, c, pair()[:i+1])
	}
	goesOn(t, swapped(t, f, names[0], names[1]), nil)
}

// swapped is a copy of a FS in which two files have each other's names.
func swapped(t *testing.T, f *fs.FS, a, b string) *fs.FS {
	t.Helper()
	c := f.Copy()
	ok(t, c.Rename(a, "z"))
	ok(t, c.Rename(b, a))
	ok(t, c.Rename("z", b))
	return c
}

// P8.1: likewise where further files are behind.
func TestManyFiles(t *testing.T) {
	if testing.Short() {
		t.Skip("it takes seconds")
	}
	f := disk(t, 1<<23)
	all := wide(t, opened(t, f), 3)
	names := f.Names("")
	if len(names) != 3 {
		t.Fatalf("it lies in %q", names)
	}
	c := f.Copy()
	ok(t, c.Remove(names[1]))
	first := len(told(opened(t, c)))
	if first < 80 || first > 90 {
		t.Fatalf("%d groups are in the first file", first)
	}
	goesOn(t, c, all[:first])
	goesOn(t, swapped(t, f, names[1], names[2]), all[:first])
	c = f.Copy()
	ok(t, c.Append(names[0], []byte("x")))
	goesOn(t, c, all[:first])
	c = f.Copy()
	ok(t, c.Append(names[1], []byte("x")))
	goesOn(t, c, all[:len(told(opened(t, c)))])
	c = f.Copy()
	ok(t, c.Rename(names[2], "j.part-11"))
	goesOn(t, c, told(opened(t, c.Copy())))
}

// P8.5: what is left in files that count as none never comes back, though the groups ahead of it are committed anew.
func TestLeftFilesStayGone(t *testing.T) {
	base := disk(t, 1<<22)
	j := opened(t, base)
	for _, records := range pair() {
		commit(t, j, records...)
	}
	if len(base.Names("j")) != 2 {
		t.Fatal(base.Names(""))
	}
	first := pair()[0]
	for _, damage := range []func(f *fs.FS) api.Errno{
		func(f *fs.FS) api.Errno { return f.Remove("j") },
		func(f *fs.FS) api.Errno { return f.Write("j", nil) },
		func(f *fs.FS) api.Errno { return f.Write("j", []byte("other")) },
	} {
		f := base.Copy()
		ok(t, damage(f))
		j := opened(t, f)
		tells(t, j, nil)
		commit(t, j, first...)
		tells(t, j, of(first...))
		lasts(t, f, of(first...))
		if state(f) != fresh(t, of(first...)) {
			t.Errorf("it lies in %q", f.Names(""))
		}
		f = base.Copy()
		ok(t, damage(f))
		j = opened(t, f)
		ok(t, j.Reset())
		commit(t, j, first...)
		lasts(t, f, of(first...))
	}
}

// What has a name that the journal would give to no file of its own stays, though it begins as they do.
func TestNamesOfNoPart(t *testing.T) {
	f := disk(t, 1<<22)
	names := []string{"j.", "j.part", "j.part-", "j.part-+1", "j.part--1", "j.part-0", "j.part-01", "j.part-1x", "j.part-9999999999999999999", "j.x"}
	for _, name := range names {
		ok(t, f.Write(name, []byte(name)))
	}
	for range 2 {
		j := opened(t, f)
		tells(t, j, nil)
		for _, records := range pair() {
			commit(t, j, records...)
		}
		lasts(t, f, pair())
		ok(t, j.Reset())
		for _, name := range names {
			if read(t, f, name) != name {
				t.Errorf("%q has other bytes", name)
			}
		}
	}
}

// P8.1: other bytes may have other names too, so that room is lacking for what is to stay of them.
func TestNoRoomToMend(t *testing.T) {
	all, data, _ := small(t)
	f := disk(t, 2*len(data))
	ok(t, f.Write("j", []byte(data+"x")))
	ok(t, f.Link("j", "too"))
	j := opened(t, f)
	tells(t, j, all)
	add(t, j, "new")
	for range 2 {
		answers(t, j.Commit(), api.ErrFull)
		tells(t, j, all)
		lasts(t, f, all)
	}
	ok(t, f.Remove("too"))
	ok(t, j.Commit())
	lasts(t, f, all.with([]string{"new"}))
}

// P8.1: a file that goes under another name too is read under both, and a Reset changes the one alone.
func TestOtherNameOfFile(t *testing.T) {
	f := disk(t, 1<<20)
	j := opened(t, f)
	commit(t, j, "a")
	data := read(t, f, "j")
	ok(t, f.Link("j", "too"))
	ok(t, j.Reset())
	if read(t, f, "too") != data {
		t.Error("the other name has other bytes")
	}
	ok(t, f.Rename("too", "j"))
	tells(t, opened(t, f), of("a"))
}
