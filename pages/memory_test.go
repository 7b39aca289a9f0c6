package pages_test

import (
	"slices"
	"strconv"
	"strings"
	"sync"
	"sync/atomic"
	"testing"

	"pantry/api"
	"pantry/fs"
	"pantry/pages"
)

// P9.6, W6: bytes that are handed in stay, with the room behind them, and are not kept.
func TestBytesAreNotKept(t *testing.T) {
	f, p := filled(t, 1<<20, "", "", "")
	b := []byte("12345behind")
	ok(t, p.Put(0, b[:5]))
	ok(t, p.Put(1, b[:0]))
	ok(t, p.Put(2, b[2:4]))
	if string(b) != "12345behind" {
		t.Errorf("what was handed in is %q", b)
	}
	clear(b[1:])
	tells(t, p, of("12345", "", "34"))
	ok(t, p.Commit())
	clear(b)
	tells(t, p, of("12345", "", "34"))
	lasts(t, f, of("12345", "", "34"))
	copy(b, "67890behind")
	ok(t, p.Put(1, b[:5]))
	clear(b)
	p.Drop()
	tells(t, p, of("12345", "", "34"))
}

// P9.6, W6: the name is not kept.
func TestNameIsNotKept(t *testing.T) {
	f := disk(t, 1<<24)
	name, b := borrowed("name")
	p, e := pages.Open(f, name)
	ok(t, e)
	copy(b, "gone")
	fill(t, p, many(1100, 500)...)
	ok(t, p.Commit())
	copy(b, "more")
	for range 10 {
		ok(t, p.Put(0, []byte(sized(500))))
		ok(t, p.Commit())
	}
	for _, n := range f.Names("") {
		if !strings.HasPrefix(n, "name") {
			t.Errorf("there is %q", n)
		}
	}
	q, e := pages.Open(f, "name")
	ok(t, e)
	tells(t, q, of(many(1100, 500)...).put(0, sized(500)))
}

// P9.6, W6: what is answered is new memory each time.
func TestAnswersAreNewMemory(t *testing.T) {
	f, p := filled(t, 1<<20, "12345", "", sized(512), "6")
	given := []byte("given")
	ok(t, p.Put(3, given))
	all := []span{spanOf(given)}
	for _, q := range []*pages.Pager{p, p, opened(t, f), opened(t, f)} {
		for n := range 4 {
			b, e := q.Get(n)
			ok(t, e)
			all = append(all, spanOf(b))
		}
	}
	if meet(all) {
		t.Error("answers share memory")
	}
}

// P9.6, W7: what becomes of an answer is not seen in the pager, nor what becomes of the pager in an answer.
func TestAnswersStay(t *testing.T) {
	f, p := filled(t, 1<<20, "12345", "", sized(512))
	want := of("12345", "", sized(512))
	for _, q := range []*pages.Pager{p, opened(t, f)} {
		for n := range 3 {
			b, e := q.Get(n)
			ok(t, e)
			b = b[:cap(b)]
			for i := range b {
				b[i] = '!'
			}
		}
		tells(t, q, want)
	}
	ok(t, p.Put(1, []byte("x")))
	p.Drop()
	tells(t, p, want)
	// Nor is it in what is committed then.
	ok(t, p.Put(1, []byte("next")))
	b, e := p.Get(1)
	ok(t, e)
	clear(b)
	ok(t, p.Commit())
	lasts(t, f, want.put(1, "next"))
	b, e = p.Get(0)
	ok(t, e)
	ok(t, p.Put(0, []byte("54321")))
	ok(t, p.Free(1))
	ok(t, p.Commit())
	if string(b) != "12345" {
		t.Errorf("what was answered is %q", b)
	}
}

// P9.6: a nil Pager.
func TestNil(t *testing.T) {
	var p *pages.Pager
	if n, e := p.New(); n != 0 || e != api.ErrArg {
		t.Errorf("New: %d, %v", n, e)
	}
	for _, n := range []int{0, 1, -1, most} {
		answers(t, p.Free(n), api.ErrArg)
		answers(t, p.Put(n, nil), api.ErrArg)
		answers(t, p.Put(n, make([]byte, api.PageSize+1)), api.ErrArg)
		lacks(t, p, n)
	}
	answers(t, p.Commit(), api.ErrArg)
	p.Drop()
	counts(t, p, 0, 0, 0)
}

// W1: one that Open did not make has no FS, and does not panic.
func TestPagerOfItsOwn(t *testing.T) {
	for _, all := range [][]string{{"x"}, many(1100, 500)} {
		var p pages.Pager
		tells(t, &p, nil)
		answers(t, p.Commit(), api.OK)
		p.Drop()
		fill(t, &p, all...)
		answers(t, p.Commit(), api.ErrArg)
		dead(t, &p, of(all...), len(all))
		p.Drop()
		tells(t, &p, nil)
	}
}

// W9: others Crash the FS meanwhile, and ask, Sync and Fuse it: nothing panics, whatever is answered.
func TestCrashedMeanwhile(t *testing.T) {
	f, _ := filled(t, 1<<24, "first")
	var all sync.WaitGroup
	var ended atomic.Bool
	often := rounds(800)
	all.Go(func() {
		defer ended.Store(true)
		// A burnt fuse lets none be opened, till the next Crash.
		for tries, i := 0, 0; i < often && tries < often*1000; tries++ {
			p, e := pages.Open(f, "p")
			if e != api.OK {
				continue
			}
			i++
			for range 5 {
				p.New()
				p.Put(i%10, []byte(sized(i%500)))
				p.Commit()
				p.Get(i % 10)
				p.Free(i % 20)
			}
			for n := range (i / 50 % 2) * 1100 {
				if all, _ := p.Count(); all <= n {
					p.New()
				}
				p.Put(n, make([]byte, 512))
			}
			p.Commit()
			for n := 20; p.Free(n) == api.OK; n++ {
			}
			p.Commit()
			p.Drop()
		}
	})
	all.Go(func() {
		for i := 0; !ended.Load(); i++ {
			f.Sync()
			f.Fuse(i%40 - 1)
			f.Crash(i % 4)
			f.Names("")
		}
	})
	all.Go(func() {
		for range often / 10 {
			c := f.Copy()
			c.Crash(1)
			pages.Open(c, "p")
		}
	})
	all.Wait()
	f.Crash(0)
	if p, e := pages.Open(f, "p"); e == api.OK {
		p.New()
		p.Put(0, []byte("x"))
		p.Commit()
		p.Get(0)
		p.Count()
	}
}

// between asks for two pages that a Commit changed together, the least and the most it may have been.
func between(t *testing.T, f *fs.FS, least, most int64) {
	t.Helper()
	p, e := pages.Open(f, "p")
	if e != api.OK {
		t.Errorf("Open: %v", e)
		return
	}
	a, _ := p.Get(0)
	b, _ := p.Get(70)
	n, err := strconv.ParseInt(string(a), 10, 64)
	if err != nil || n < least || n > most || string(b) != string(a) {
		t.Errorf("%q and %q, not %d to %d", a, b, least, most)
	}
}

// W9, P9.5: others ask, Sync and Fuse the FS meanwhile, and Crash copies of it, but not the FS itself: what a Commit
// answered OK is there, and of the one that erred all or nothing.
func TestOthersMeanwhile(t *testing.T) {
	// The two pages stand in two files.
	f, _ := filled(t, 1<<24, slices.Repeat([]string{"0"}, 71)...)
	var tried, done atomic.Int64
	for i := range rounds(300) {
		var all sync.WaitGroup
		all.Go(func() {
			for n := range 10 {
				f.Sync()
				f.Names("")
				least := done.Load()
				c := f.Copy()
				most := tried.Load()
				c.Crash(n % 4)
				between(t, c, least, most)
			}
			f.Fuse(i % 9)
		})
		p, e := pages.Open(f, "p")
		for range 60 {
			if e != api.OK {
				break
			}
			n := tried.Add(1)
			text := strconv.AppendInt(nil, n, 10)
			ok(t, p.Put(0, text))
			ok(t, p.Put(70, text))
			if e = p.Commit(); e == api.OK {
				done.Store(n)
			}
		}
		all.Wait()
		if e != api.OK {
			answers(t, e, api.ErrDead)
		}
		f.Crash(i % 4)
		between(t, f, done.Load(), tried.Load())
		settled(t, f, &tried, &done)
	}
}

// settled tells which Commit of those that were tried is there.
func settled(t *testing.T, f *fs.FS, tried, done *atomic.Int64) {
	t.Helper()
	b, e := opened(t, f).Get(0)
	ok(t, e)
	n, err := strconv.ParseInt(string(b), 10, 64)
	if err != nil {
		t.Fatalf("%q is no number", b)
	}
	tried.Store(n)
	done.Store(n)
}

// W9: Syncs of others change nothing that a pager answers.
func TestSyncsMeanwhile(t *testing.T) {
	f := disk(t, 1<<24)
	p := opened(t, f)
	var all sync.WaitGroup
	all.Go(func() {
		for range rounds(2000) {
			f.Sync()
			f.Pending()
		}
	})
	var want book
	for i := range rounds(500) {
		fill(t, p, sized(i))
		ok(t, p.Commit())
		want = append(want, leaf{true, sized(i)})
	}
	all.Wait()
	tells(t, p, want)
	lasts(t, f, want)
}

// W8: two pagers over copies of a FS share nothing.
func TestCopies(t *testing.T) {
	f, _ := filled(t, 1<<20, "a")
	both := []*fs.FS{f, f.Copy()}
	for i, g := range both {
		p := opened(t, g)
		fill(t, p, sized(i))
		ok(t, p.Commit())
	}
	for i, g := range both {
		lasts(t, g, of("a", sized(i)))
	}
}
