package journal_test

import (
	"fmt"
	"strings"
	"testing"

	"pantry/api"
	"pantry/fs"
	"pantry/journal"
)

// The chapter's example.
func TestExample(t *testing.T) {
	f := disk(t, 1<<20)
	j := opened(t, f)
	add(t, j, "a", "b")
	ok(t, j.Commit())
	add(t, j, "c")
	f.Crash(0)
	tells(t, opened(t, f), of("a", "b"))
}

// P8.1: what may not be handed in.
func TestOpenArgs(t *testing.T) {
	f := disk(t, 1<<20)
	for _, x := range []struct {
		f    *fs.FS
		name string
		want api.Errno
	}{
		{nil, "j", api.ErrArg},
		{nil, "", api.ErrArg},
		{nil, sized(101), api.ErrArg},
		{f, "", api.ErrArg},
		{f, sized(101), api.ErrArg},
		{f, sized(102), api.ErrArg},
		{f, sized(300), api.ErrArg},
		{f, sized(1 << 20), api.ErrArg},
		{f, strings.Repeat("ä", 51), api.ErrArg},
		{f, strings.Repeat("ä", 50), api.OK},
		{f, sized(100), api.OK},
		{f, sized(99), api.OK},
		{f, "j", api.OK},
		{f, "\x00", api.OK},
		{f, "\xff/. \n", api.OK},
		{f, ".", api.OK},
	} {
		j, e := journal.Open(x.f, x.name)
		if e != x.want || (j == nil) != (e != api.OK) {
			t.Errorf("Open(%.10q of %d bytes): %v, %v", x.name, len(x.name), j, e)
		}
	}
	// ErrArg comes ahead of an error of the FS.
	ok(t, f.Write("x", nil))
	f.Fuse(0)
	_, e := journal.Open(f, "")
	answers(t, e, api.ErrArg)
}

// P8.1: journals of all names work, each for itself.
func TestNames(t *testing.T) {
	f := disk(t, 1<<22)
	names := []string{"j", "j2", "i", "jj", "J", "\x00", "\xff/", "j-", sized(99), sized(100)}
	for i, name := range names {
		j, e := journal.Open(f, name)
		ok(t, e)
		tells(t, j, nil)
		commit(t, j, name, fmt.Sprint(i))
		// It lives in files whose names begin so.
		for _, n := range f.Names("") {
			own := false
			for _, m := range names[:i+1] {
				own = own || n == m || strings.HasPrefix(n, m+".")
			}
			if !own {
				t.Errorf("behind %q there is a file %q", name, n)
			}
		}
	}
	for i, name := range names {
		j, e := journal.Open(f, name)
		ok(t, e)
		tells(t, j, of(name, fmt.Sprint(i)))
		if i%2 == 0 {
			ok(t, j.Reset())
		}
	}
	f.Crash(0)
	for i, name := range names {
		j, e := journal.Open(f, name)
		ok(t, e)
		if i%2 == 0 {
			tells(t, j, nil)
		} else {
			tells(t, j, of(name, fmt.Sprint(i)))
		}
	}
}

// P8.1: where there is nothing there is no group; and Open alone changes nothing.
func TestOpenNothing(t *testing.T) {
	f := disk(t, 0)
	before := state(f)
	j := opened(t, f)
	tells(t, j, nil)
	tells(t, opened(t, f), nil)
	add(t, j, "x")
	j.Drop()
	if state(f) != before {
		t.Errorf("there is %s", state(f))
	}
}

// P8.1: several groups, and the journal opened anew behind each.
func TestOpenAnew(t *testing.T) {
	f := disk(t, 1<<22)
	var want groups
	for i := range 20 {
		j := opened(t, f)
		tells(t, j, want)
		records := append(empties(i%3), sized(i), fmt.Sprint(i), "")
		commit(t, j, records...)
		want = want.with(records)
		tells(t, j, want)
		lasts(t, f, want)
		if i == 11 {
			ok(t, j.Reset())
			want = nil
			tells(t, j, want)
			lasts(t, f, want)
		}
	}
}

// P8.1: an error of the FS, if it cannot last what would be told; if there is nothing that does not last, there is none.
func TestOpenErrors(t *testing.T) {
	f := disk(t, 1<<20)
	commit(t, opened(t, f), "a")
	f.Fuse(0)
	tells(t, opened(t, f), of("a"))
	f.Fuse(-1)
	ok(t, f.Write("other", nil))
	f.Fuse(0)
	before := state(f)
	if j, e := journal.Open(f, "j"); j != nil || e != api.ErrDead {
		t.Errorf("Open: %v, %v", j, e)
	}
	if state(f) != before {
		t.Errorf("there is %s", state(f))
	}
	f.Fuse(-1)
	tells(t, opened(t, f), of("a"))
}

// P8.2: a record is laid down as long as all have at most 2^19 bytes.
func TestAddBytes(t *testing.T) {
	j := opened(t, disk(t, 1<<22))
	answers(t, j.Add(make([]byte, most+1)), api.ErrLong)
	answers(t, j.Add(make([]byte, 1<<21)), api.ErrLong)
	answers(t, j.Add(make([]byte, most)), api.OK)
	answers(t, j.Add([]byte("x")), api.ErrLong)
	answers(t, j.Add(make([]byte, most)), api.ErrLong)
	answers(t, j.Add(nil), api.OK)
	answers(t, j.Add([]byte{}), api.OK)
	j.Drop()
	add(t, j, sized(most-3), "ab")
	answers(t, j.Add([]byte("xy")), api.ErrLong)
	add(t, j, "", "c")
	answers(t, j.Add([]byte("x")), api.ErrLong)
	// What was too long is not among them.
	ok(t, j.Commit())
	want := of(sized(most-3), "ab", "", "c")
	tells(t, j, want)
	// Those of a group count no more.
	answers(t, j.Add(make([]byte, most)), api.OK)
	answers(t, j.Add([]byte("x")), api.ErrLong)
	tells(t, j, want)
}

// P8.2: at most 4096 records are laid down, whatever they have.
func TestAddRecords(t *testing.T) {
	f := disk(t, 1<<22)
	j := opened(t, f)
	var want groups
	for _, p := range []string{"", "x", sized(128)} {
		for i := range many {
			if e := j.Add([]byte(p)); e != api.OK {
				t.Fatal(i, e)
			}
		}
		answers(t, j.Add(nil), api.ErrLong)
		answers(t, j.Add([]byte("x")), api.ErrLong)
		answers(t, j.Add(make([]byte, most+1)), api.ErrLong)
		ok(t, j.Commit())
		records := empties(many)
		for i := range records {
			records[i] = p
		}
		want = want.with(records)
		tells(t, j, want)
		lasts(t, f, want)
	}
	j = opened(t, f)
	for range many {
		add(t, j, "")
	}
	answers(t, j.Add(nil), api.ErrLong)
	j.Drop()
	add(t, j, "")
}

// P8.2: Drop forgets what is laid down, and nothing else.
func TestDrop(t *testing.T) {
	f := disk(t, 1<<20)
	j := opened(t, f)
	j.Drop()
	add(t, j, "lost")
	j.Drop()
	j.Drop()
	ok(t, j.Commit())
	tells(t, j, nil)
	commit(t, j, "a")
	add(t, j, "lost", "too")
	j.Drop()
	tells(t, j, of("a"))
	commit(t, j, "b", "c")
	add(t, j, "lost")
	want := groups{{"a"}, {"b", "c"}}
	tells(t, j, want)
	lasts(t, f, want)
}

// P8.2, P8.3: what is laid down is told by nobody till it is committed; then it is the last group, and lasts.
func TestGroups(t *testing.T) {
	f := disk(t, 1<<20)
	j := opened(t, f)
	var want groups
	for _, records := range [][]string{{""}, {"a"}, {"a"}, {"", "", ""}, {"b", "a", "b"}, {"\x00\xff", "", sized(1000)}, {""}, {"z"}} {
		for i, p := range records {
			add(t, j, p)
			tells(t, j, want)
			if i == 0 {
				lasts(t, f, want)
			}
		}
		ok(t, j.Commit())
		want = want.with(records)
		tells(t, j, want)
		if f.Pending() != 0 {
			t.Errorf("%d things are pending", f.Pending())
		}
		lasts(t, f, want)
	}
}

// P8.3: with nothing laid down nothing is done, not even with a burnt fuse, or where there is no room.
func TestCommitNothing(t *testing.T) {
	for _, first := range []bool{false, true} {
		f := disk(t, 1000)
		j := opened(t, f)
		if first {
			commit(t, j, "a")
		}
		was := told(j)
		ok(t, f.Write("other", make([]byte, 1000-f.Used())))
		before := state(f)
		answers(t, j.Commit(), api.OK)
		f.Fuse(0)
		answers(t, j.Commit(), api.OK)
		add(t, j, "x")
		j.Drop()
		answers(t, j.Commit(), api.OK)
		if state(f) != before {
			t.Errorf("there is %s, was %s", state(f), before)
		}
		tells(t, j, was)
		// And it is not dead.
		f.Fuse(-1)
		ok(t, f.Remove("other"))
		commit(t, j, "b")
		tells(t, j, was.with([]string{"b"}))
	}
}

// P8.3: with nothing laid down it is OK also where the groups are full.
func TestCommitNothingFull(t *testing.T) {
	j := opened(t, disk(t, 1<<22))
	commit(t, j, sized(most))
	answers(t, j.Commit(), api.OK)
	add(t, j, "")
	answers(t, j.Commit(), api.ErrFull)
	j.Drop()
	answers(t, j.Commit(), api.OK)
}

// P8.3: the groups are full with 2^19 bytes in all; as long as there are fewer, any group goes.
func TestFull(t *testing.T) {
	for _, first := range []groups{
		{{sized(most)}},
		{{sized(most / 2), sized(most / 2)}},
		{{sized(most - 1)}, {"x"}},
		{{sized(most - 1)}, {sized(most)}},
		{{sized(most - 1)}, {"", sized(most / 2), "", sized(most / 2)}},
		{{sized(most / 2)}, {""}, {sized(most/2 - 1)}, {"", ""}, {sized(most)}},
		{{"x"}, {sized(most - 2)}, {"yz"}},
	} {
		f := disk(t, 1<<22)
		j := opened(t, f)
		for i, records := range first {
			commit(t, j, records...)
			tells(t, j, first[:i+1])
		}
		add(t, j, "late")
		for range 2 {
			before := state(f)
			answers(t, j.Commit(), api.ErrFull)
			if state(f) != before {
				t.Error("something was done")
			}
			tells(t, j, first)
			lasts(t, f, first)
			add(t, j, "later")
		}
		// So it is when it is opened anew.
		k := opened(t, f.Copy())
		tells(t, k, first)
		add(t, k, "")
		answers(t, k.Commit(), api.ErrFull)
		ok(t, j.Reset())
		ok(t, j.Commit())
		want := of("late", "later", "later")
		tells(t, j, want)
		lasts(t, f, want)
	}
}

// P8.3: records without bytes fill nothing, however many there are, and however many groups.
func TestManyEmptyRecords(t *testing.T) {
	f := disk(t, 1<<24)
	j := opened(t, f)
	files := 4
	if testing.Short() {
		files = 2
	}
	var want groups
	for range 86*(files-1) + 1 {
		commit(t, j, empties(many)...)
		want = want.with(empties(many))
	}
	commit(t, j, sized(most-1))
	commit(t, j, sized(most))
	want = want.with([]string{sized(most - 1)}, []string{sized(most)})
	add(t, j, "")
	answers(t, j.Commit(), api.ErrFull)
	tells(t, j, want)
	lasts(t, f, want)
}

// P8.3: groups of one byte each, as many as there may be.
func TestManyGroups(t *testing.T) {
	if testing.Short() {
		t.Skip("it takes seconds")
	}
	f := disk(t, 1<<26)
	j := opened(t, f)
	for i := range most {
		j.Add([]byte{byte(i)})
		if e := j.Commit(); e != api.OK {
			t.Fatal(i, e)
		}
		if i%(most/4) == 12345 {
			j = opened(t, f)
		}
	}
	add(t, j, "x")
	answers(t, j.Commit(), api.ErrFull)
	f.Crash(0)
	j = opened(t, f)
	all := j.Groups()
	if len(all) != most {
		t.Fatal(len(all))
	}
	for i, g := range all {
		if len(g) != 1 || len(g[0]) != 1 || g[0][0] != byte(i) {
			t.Fatal(i, g)
		}
	}
	ok(t, j.Reset())
	if f.Used() != 0 {
		t.Errorf("%d bytes are left", f.Used())
	}
	tells(t, opened(t, f), nil)
}

// P8.3: Reset keeps what is laid down, forgets all groups, and that lasts.
func TestReset(t *testing.T) {
	f := disk(t, 1<<20)
	j := opened(t, f)
	add(t, j, "first")
	ok(t, j.Reset())
	tells(t, j, nil)
	ok(t, j.Commit())
	tells(t, j, of("first"))
	commit(t, j, "b", "c")
	add(t, j, "d")
	ok(t, j.Reset())
	tells(t, j, nil)
	lasts(t, f, nil)
	if f.Pending() != 0 {
		t.Errorf("%d things are pending", f.Pending())
	}
	ok(t, j.Reset())
	add(t, j, "e")
	ok(t, j.Commit())
	tells(t, j, of("d", "e"))
	lasts(t, f, of("d", "e"))
	ok(t, opened(t, f).Reset())
	lasts(t, f, nil)
}

// P8.3: Reset of a journal that has nothing is asked of the FS too.
func TestResetNothing(t *testing.T) {
	f := disk(t, 0)
	j := opened(t, f)
	ok(t, f.Write("other", nil))
	ok(t, j.Reset())
	if f.Pending() != 0 {
		t.Error("it is not Synced")
	}
	f.Fuse(0)
	answers(t, j.Reset(), api.ErrDead)
	f.Fuse(-1)
	answers(t, j.Reset(), api.ErrDead)
	if names := f.Names(""); len(names) != 1 {
		t.Errorf("%q", names)
	}
}

// The chapter's way: a group is one Append, which a Sync makes last; the first one has its file made.
func TestThingsOfACommit(t *testing.T) {
	f := disk(t, 1<<20)
	j := opened(t, f)
	for i, things := range []int{3, 2, 2, 2, 2, 2} {
		if i == 3 {
			ok(t, j.Reset())
		}
		if i == 4 {
			j = opened(t, f)
		}
		add(t, j, "x", "", "y")
		f.Fuse(things)
		answers(t, j.Commit(), api.OK)
		answers(t, f.Sync(), api.ErrDead)
		f.Fuse(-1)
	}
}

// P8.3: a Reset that lacks its file, and may make none.
func TestResetWithoutName(t *testing.T) {
	f := disk(t, 1<<20)
	j := opened(t, f)
	commit(t, j, "a")
	ok(t, f.Remove("j"))
	for i := range api.MaxNames {
		ok(t, f.Write(fmt.Sprint(i), nil))
	}
	answers(t, j.Reset(), api.ErrFull)
	tells(t, j, of("a"))
	ok(t, f.Remove("0"))
	ok(t, j.Reset())
	tells(t, j, nil)
	commit(t, j, "b")
	lasts(t, f, of("b"))
}

// P8.3: a Reset gives all room back, of one file and of several.
func TestResetGivesRoomBack(t *testing.T) {
	for _, files := range []int{1, 2, 4} {
		f := disk(t, 1<<23)
		ok(t, f.Write("other", []byte("12345")))
		j := opened(t, f)
		want := wide(t, j, files)
		tells(t, j, want)
		if n := len(f.Names("j")); n != files {
			t.Fatalf("%d files, want %d", n, files)
		}
		if files == 2 {
			j = opened(t, f)
		}
		ok(t, j.Reset())
		if f.Used() != 5 || len(f.Names("j")) > 1 {
			t.Errorf("%d bytes are used, by %q", f.Used(), f.Names(""))
		}
		tells(t, j, nil)
		lasts(t, f, nil)
		commit(t, j, "x")
		lasts(t, f, of("x"))
	}
}

// P8.3: a FS without room.
func TestNoRoom(t *testing.T) {
	for room := range 120 {
		f := disk(t, 120)
		ok(t, f.Write("other", make([]byte, 120-room)))
		ok(t, f.Sync())
		j := opened(t, f)
		names, used := fmt.Sprint(f.Names("")), f.Used()
		add(t, j, "a", "")
		e := j.Commit()
		if room == 0 && e == api.OK || room == 119 && e != api.OK {
			t.Errorf("room %d: %v", room, e)
		}
		if e == api.OK {
			lasts(t, f, of("a", ""))
			continue
		}
		answers(t, e, api.ErrFull)
		if fmt.Sprint(f.Names("")) != names || f.Used() != used {
			t.Errorf("room %d: there is %s", room, state(f))
		}
		tells(t, j, nil)
		lasts(t, f, nil)
		// The records stay laid down, and the journal is not dead.
		add(t, j, "b")
		answers(t, j.Commit(), api.ErrFull)
		ok(t, j.Reset())
		answers(t, j.Commit(), api.ErrFull)
		ok(t, f.Remove("other"))
		ok(t, j.Commit())
		tells(t, j, of("a", "", "b"))
		lasts(t, f, of("a", "", "b"))
	}
}

// P8.3: there is no room any more behind some groups, and with as many names as there may be.
func TestNoMoreRoom(t *testing.T) {
	f := disk(t, 400)
	j := opened(t, f)
	var want groups
	add(t, j, "x")
	for j.Commit() == api.OK {
		want = want.with([]string{"x"})
		add(t, j, "x")
	}
	if len(want) == 0 {
		t.Fatal("nothing goes")
	}
	before := state(f)
	answers(t, j.Commit(), api.ErrFull)
	if state(f) != before {
		t.Error("something was done")
	}
	tells(t, j, want)
	lasts(t, f, want)
	ok(t, j.Reset())
	ok(t, j.Commit())
	lasts(t, f, of("x"))
}

// P8.3: there may be no more names.
func TestNoNames(t *testing.T) {
	f := disk(t, 1<<24)
	j := opened(t, f)
	for i := range api.MaxNames {
		ok(t, f.Write(fmt.Sprint(i), nil))
	}
	add(t, j, "x")
	answers(t, j.Commit(), api.ErrFull)
	ok(t, j.Reset())
	tells(t, opened(t, f), nil)
	ok(t, f.Remove("0"))
	ok(t, j.Commit())
	lasts(t, f, of("x"))
	// Also for one more file.
	commit(t, j, sized(most-2))
	add(t, j, sized(most))
	answers(t, j.Commit(), api.ErrFull)
	want := groups{{"x"}, {sized(most - 2)}}
	tells(t, j, want)
	lasts(t, f, want)
	ok(t, f.Remove("1"))
	ok(t, j.Commit())
	want = want.with([]string{sized(most)})
	tells(t, j, want)
	lasts(t, f, want)
}

// P8.3: there is no room for one more file.
func TestNoRoomForNextFile(t *testing.T) {
	f := disk(t, 1<<20+1<<19)
	j := opened(t, f)
	commit(t, j, sized(most-1))
	ok(t, f.Write("other", make([]byte, 1<<19)))
	ok(t, f.Sync())
	names, used := fmt.Sprint(f.Names("")), f.Used()
	add(t, j, sized(most))
	answers(t, j.Commit(), api.ErrFull)
	if fmt.Sprint(f.Names("")) != names || f.Used() != used {
		t.Errorf("there is %q, used %d", f.Names(""), f.Used())
	}
	tells(t, j, of(sized(most-1)))
	lasts(t, f, of(sized(most-1)))
	ok(t, f.Remove("other"))
	ok(t, j.Commit())
	want := groups{{sized(most - 1)}, {sized(most)}}
	tells(t, j, want)
	lasts(t, f, want)
}

// dead asks a journal for what it answers behind an error, ahead of all else.
func dead(t *testing.T, j *journal.Journal, want groups) {
	t.Helper()
	for range 2 {
		answers(t, j.Add(nil), api.ErrDead)
		answers(t, j.Add(make([]byte, most+1)), api.ErrDead)
		answers(t, j.Commit(), api.ErrDead)
		answers(t, j.Reset(), api.ErrDead)
		tells(t, j, want)
		j.Drop()
	}
}

// P8.4: behind an error of the FS the journal is dead, also where the FS is not any more.
func TestDead(t *testing.T) {
	for fuse := range 3 {
		for _, resets := range []bool{false, true} {
			f := disk(t, 1<<20)
			j := opened(t, f)
			commit(t, j, "a")
			add(t, j, "b")
			f.Fuse(fuse)
			e := api.OK
			if resets {
				e = j.Reset()
			} else {
				e = j.Commit()
			}
			if fuse == 2 {
				answers(t, e, api.OK)
				continue
			}
			answers(t, e, api.ErrDead)
			dead(t, j, of("a"))
			f.Fuse(-1)
			dead(t, j, of("a"))
			f.Crash(0)
			lasts(t, f, of("a"))
		}
	}
}

// P8.4: so it is with 4096 records that are laid down, and with groups that are full.
func TestDeadAheadOfAllElse(t *testing.T) {
	f := disk(t, 1<<22)
	j := opened(t, f)
	commit(t, j, sized(most))
	add(t, j, empties(many)...)
	answers(t, j.Add(nil), api.ErrLong)
	answers(t, j.Commit(), api.ErrFull)
	f.Fuse(0)
	answers(t, j.Add(nil), api.ErrLong)
	answers(t, j.Commit(), api.ErrFull)
	answers(t, j.Reset(), api.ErrDead)
	dead(t, j, of(sized(most)))
}

// P8.4: any error of the FS but ErrFull does it: here files that somebody took away.
func TestDeadWithoutFiles(t *testing.T) {
	for _, files := range []int{1, 2} {
		f := disk(t, 1<<22)
		j := opened(t, f)
		want := wide(t, j, files)
		names := f.Names("j")
		ok(t, f.Remove(names[len(names)-1]))
		add(t, j, "x")
		answers(t, j.Commit(), api.ErrNone)
		dead(t, j, want)
	}
	f := disk(t, 1<<22)
	j := opened(t, f)
	want := wide(t, j, 2)
	ok(t, f.Remove(f.Names("j")[1]))
	answers(t, j.Reset(), api.ErrNone)
	dead(t, j, want)
}

// P8.4: what is dead is one journal, not the others of its FS.
func TestDeadAlone(t *testing.T) {
	f := disk(t, 1<<20)
	j := opened(t, f)
	k, e := journal.Open(f, "k")
	ok(t, e)
	add(t, j, "a")
	add(t, k, "b")
	f.Fuse(0)
	answers(t, j.Commit(), api.ErrDead)
	f.Fuse(-1)
	ok(t, k.Commit())
	tells(t, k, of("b"))
	dead(t, j, nil)
	j = opened(t, f)
	commit(t, j, "c")
	tells(t, j, of("c"))
}
