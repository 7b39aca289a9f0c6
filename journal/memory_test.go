package journal_test

import (
	"slices"
	"strconv"
	"strings"
	"sync"
	"sync/atomic"
	"testing"

	"pantry/api"
	"pantry/fs"
	"pantry/journal"
)

// P8.6, W6: records that are handed in stay, with the room behind them, and are not kept.
func TestRecordsAreNotKept(t *testing.T) {
	f := disk(t, 1<<20)
	j := opened(t, f)
	b := []byte("12345behind")
	ok(t, j.Add(b[:5]))
	ok(t, j.Add(b[:0]))
	ok(t, j.Add(b[2:4]))
	answers(t, j.Add(make([]byte, most)), api.ErrLong)
	clear(b[1:])
	ok(t, j.Commit())
	clear(b)
	want := of("12345", "", "34")
	tells(t, j, want)
	ok(t, j.Add(b[:3]))
	copy(b, "67890behind")
	ok(t, j.Add(b[:5]))
	ok(t, j.Commit())
	if string(b) != "67890behind" {
		t.Errorf("what was handed in is %q", b)
	}
	want = want.with([]string{"\x00\x00\x00", "67890"})
	tells(t, j, want)
	lasts(t, f, want)
}

// P8.6, W6: the name is not kept.
func TestNameIsNotKept(t *testing.T) {
	f := disk(t, 1<<22)
	name, b := borrowed("name")
	j, e := journal.Open(f, name)
	ok(t, e)
	copy(b, "gone")
	commit(t, j, sized(most-1))
	copy(b, "more")
	commit(t, j, sized(most))
	names := f.Names("")
	if len(names) != 2 || names[0] != "name" || !strings.HasPrefix(names[1], "name.") {
		t.Errorf("it lies in %q", names)
	}
	k, e := journal.Open(f, "name")
	ok(t, e)
	tells(t, k, groups{{sized(most - 1)}, {sized(most)}})
	ok(t, j.Reset())
	if f.Used() != 0 {
		t.Errorf("there is %q", f.Names(""))
	}
}

// P8.6, W6: what is answered is new memory each time, and no two lists of it share any.
func TestAnswersAreNewMemory(t *testing.T) {
	f := disk(t, 1<<20)
	j := opened(t, f)
	commit(t, j, "12345", "", "6")
	commit(t, j, sized(100), "x")
	var all []span
	for _, k := range []*journal.Journal{j, j, opened(t, f), opened(t, f)} {
		got := k.Groups()
		all = append(all, spanOf(got))
		for _, g := range got {
			all = append(all, spanOf(g))
			for _, p := range g {
				all = append(all, spanOf(p))
			}
		}
	}
	if meet(all) {
		t.Error("answers share memory")
	}
}

// P8.6, W7: what becomes of an answer is not seen in the journal, nor what becomes of the journal in an answer.
func TestAnswersStay(t *testing.T) {
	f := disk(t, 1<<20)
	j := opened(t, f)
	commit(t, j, "12345", "", "6")
	for _, k := range []*journal.Journal{j, opened(t, f)} {
		want := groups{{"12345", "", "6"}}
		for range 2 {
			got := k.Groups()
			for _, g := range got {
				for _, p := range g {
					p = p[:cap(p)]
					for i := range p {
						p[i] = '!'
					}
				}
				clear(g[:cap(g)])
			}
			clear(got[:cap(got)])
			tells(t, k, want)
		}
		// The digest of the next group leans on those ahead.
		trial := f.Copy()
		k = opened(t, trial)
		scribble(k.Groups())
		commit(t, k, "next")
		lasts(t, trial, want.with([]string{"next"}))
	}
	got := j.Groups()
	commit(t, j, "7")
	ok(t, j.Reset())
	commit(t, j, "8")
	if len(got) != 1 || len(got[0]) != 3 || string(slices.Concat(got[0]...)) != "123456" {
		t.Errorf("what was answered is %q", got)
	}
}

// scribble changes all records of an answer.
func scribble(all [][][]byte) {
	for _, g := range all {
		for _, p := range g {
			clear(p)
		}
	}
}

// P8.6: a nil Journal.
func TestNil(t *testing.T) {
	var j *journal.Journal
	answers(t, j.Add([]byte("x")), api.ErrArg)
	answers(t, j.Add(nil), api.ErrArg)
	answers(t, j.Add(make([]byte, most+1)), api.ErrArg)
	answers(t, j.Commit(), api.ErrArg)
	answers(t, j.Reset(), api.ErrArg)
	j.Drop()
	if got := j.Groups(); len(got) != 0 {
		t.Errorf("%q", got)
	}
}

// W1: one that Open did not make has no FS, and does not panic.
func TestJournalOfItsOwn(t *testing.T) {
	var j, k journal.Journal
	answers(t, j.Commit(), api.OK)
	add(t, &j, "x")
	answers(t, j.Commit(), api.ErrArg)
	dead(t, &j, nil)
	answers(t, k.Reset(), api.ErrArg)
	dead(t, &k, nil)
}

// W9: others Crash the FS meanwhile, and ask, Sync and Fuse it: nothing panics, whatever is answered.
func TestCrashedMeanwhile(t *testing.T) {
	f := disk(t, 1<<22)
	commit(t, opened(t, f), "first")
	var all sync.WaitGroup
	var ended atomic.Bool
	often := rounds(3000)
	all.Go(func() {
		defer ended.Store(true)
		// A burnt fuse lets none be opened, till the next Crash.
		for tries, i := 0, 0; i < often && tries < often*1000; tries++ {
			j, e := journal.Open(f, "j")
			if e != api.OK {
				continue
			}
			i++
			for range 5 {
				j.Add([]byte(sized(i % 100)))
				j.Commit()
				j.Groups()
			}
			if i%7 == 0 {
				j.Reset()
			}
			j.Drop()
		}
	})
	all.Go(func() {
		for i := 0; !ended.Load(); i++ {
			f.Sync()
			f.Fuse(i%40 - 1)
			f.Crash(i % 4)
			f.Names("")
		}
	})
	all.Go(func() {
		for range often / 10 {
			c := f.Copy()
			c.Crash(1)
			journal.Open(c, "j")
		}
	})
	all.Wait()
	f.Crash(0)
	if j, e := journal.Open(f, "j"); e == api.OK {
		j.Add([]byte("x"))
		j.Commit()
		j.Groups()
		j.Reset()
	}
}

// between asks for the groups 1, 2 and so on, so many of them as were committed at least and at most.
func between(t *testing.T, f *fs.FS, least, most int64) {
	t.Helper()
	j, e := journal.Open(f, "j")
	if e != api.OK {
		t.Errorf("Open: %v", e)
		return
	}
	var want groups
	for range j.Groups() {
		want = want.with([]string{strconv.Itoa(len(want) + 1)})
	}
	if n := int64(len(want)); n < least || n > most || !told(j).same(want) {
		t.Errorf("%v, not %d to %d groups", told(j), least, most)
	}
}

// W9, P8.5: others ask, Sync and Fuse the FS meanwhile, and Crash copies of it, but not the FS itself: what a Commit
// answered OK is there, and of the one that erred all or nothing.
func TestOthersMeanwhile(t *testing.T) {
	f := disk(t, 1<<22)
	for i := range rounds(300) {
		var tried, done atomic.Int64
		var all sync.WaitGroup
		all.Go(func() {
			for n := range 10 {
				f.Sync()
				f.Names("")
				least := done.Load()
				c := f.Copy()
				most := tried.Load()
				c.Crash(n % 4)
				between(t, c, least, most)
			}
			f.Fuse(i % 9)
		})
		j, e := journal.Open(f, "j")
		for n := 1; e == api.OK && n <= 60; n++ {
			tried.Store(int64(n))
			ok(t, j.Add([]byte(strconv.Itoa(n))))
			if e = j.Commit(); e == api.OK {
				done.Store(int64(n))
			}
		}
		all.Wait()
		if e != api.OK {
			answers(t, e, api.ErrDead)
		}
		f.Crash(i % 4)
		between(t, f, done.Load(), tried.Load())
		ok(t, opened(t, f).Reset())
	}
}

// W9: Syncs of others change nothing that a journal answers.
func TestSyncsMeanwhile(t *testing.T) {
	f := disk(t, 1<<22)
	j := opened(t, f)
	var all sync.WaitGroup
	all.Go(func() {
		for range rounds(2000) {
			f.Sync()
			f.Pending()
		}
	})
	var want groups
	for i := range rounds(500) {
		commit(t, j, sized(i%10))
		want = want.with([]string{sized(i % 10)})
	}
	all.Wait()
	tells(t, j, want)
	lasts(t, f, want)
}

// W8: two journals over copies of a FS share nothing.
func TestCopies(t *testing.T) {
	f := disk(t, 1<<20)
	commit(t, opened(t, f), "a")
	both := []*fs.FS{f, f.Copy()}
	for i, g := range both {
		commit(t, opened(t, g), sized(i))
	}
	for i, g := range both {
		lasts(t, g, groups{{"a"}, {sized(i)}})
	}
}
