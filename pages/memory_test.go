package pages_test

import (
	"strings"
	"sync"
	"testing"

	"pantry/api"
	"pantry/fs"
	"pantry/pages"
)

// P9.6, W6: bytes that are handed in stay, with the room behind them, and are not kept.
func TestBytesAreNotKept(t *testing.T) {
	f, p := filled(t, 1<<20, "", "", "")
	b := []byte("12345behind")
	ok(t, p.Put(0, b[:5]))
	ok(t, p.Put(1, b[:0]))
	ok(t, p.Put(2, b[2:4]))
	if string(b) != "12345behind" {
		t.Errorf("what was handed in is %q", b)
	}
	clear(b[1:])
	tells(t, p, of("12345", "", "34"))
	ok(t, p.Commit())
	clear(b)
	tells(t, p, of("12345", "", "34"))
	lasts(t, f, of("12345", "", "34"))
	copy(b, "67890behind")
	ok(t, p.Put(1, b[:5]))
	clear(b)
	p.Drop()
	tells(t, p, of("12345", "", "34"))
}

// P9.6, W6: the name is not kept.
func TestNameIsNotKept(t *testing.T) {
	f := disk(t, 1<<24)
	name, b := borrowed("name")
	p, e := pages.Open(f, name)
	ok(t, e)
	copy(b, "gone")
	fill(t, p, many(1100, 500)...)
	ok(t, p.Commit())
	copy(b, "more")
	for range 10 {
		ok(t, p.Put(0, []byte(sized(500))))
		ok(t, p.Commit())
	}
	for _, n := range f.Names("") {
		if !strings.HasPrefix(n, "name") {
			t.Errorf("there is %q", n)
		}
	}
	q, e := pages.Open(f, "name")
	ok(t, e)
	tells(t, q, of(many(1100, 500)...).put(0, sized(500)))
}

// P9.6, W6: what is answered is new memory each time.
func TestAnswersAreNewMemory(t *testing.T) {
	f, p := filled(t, 1<<20, "12345", "", sized(512), "6")
	given := []byte("given")
	ok(t, p.Put(3, given))
	all := []span{spanOf(given)}
	for _, q := range []*pages.Pager{p, p, opened(t, f), opened(t, f)} {
		for n := range 4 {
			b, e := q.Get(n)
			ok(t, e)
			all = append(all, spanOf(b))
		}
	}
	if meet(all) {
		t.Error("answers share memory")
	}
}

// P9.6, W7: what becomes of an answer is not seen in the pager, nor what becomes of the pager in an answer.
func TestAnswersStay(t *testing.T) {
	f, p := filled(t, 1<<20, "12345", "", sized(512))
	want := of("12345", "", sized(512))
	for _, q := range []*pages.Pager{p, opened(t, f)} {
		for n := range 3 {
			b, e := q.Get(n)
			ok(t, e)
			b = b[:cap(b)]
			for i := range b {
				b[i] = '!'
			}
		}
		tells(t, q, want)
	}
	ok(t, p.Put(1, []byte("x")))
	p.Drop()
	tells(t, p, want)
	// Nor is it in what is committed then.
	ok(t, p.Put(1, []byte("next")))
	b, e := p.Get(1)
	ok(t, e)
	clear(b)
	ok(t, p.Commit())
	lasts(t, f, want.put(1, "next"))
	b, e = p.Get(0)
	ok(t, e)
	ok(t, p.Put(0, []byte("54321")))
	ok(t, p.Free(1))
	ok(t, p.Commit())
	if string(b) != "12345" {
		t.Errorf("what was answered is %q", b)
	}
}

// P9.6: a nil Pager.
func TestNil(t *testing.T) {
	var p *pages.Pager
	if n, e := p.New(); n != 0 || e != api.ErrArg {
		t.Errorf("New: %d, %v", n, e)
	}
	for _, n := range []int{0, 1, -1, most} {
		answers(t, p.Free(n), api.ErrArg)
		answers(t, p.Put(n, nil), api.ErrArg)
		answers(t, p.Put(n, make([]byte, api.PageSize+1)), api.ErrArg)
		lacks(t, p, n)
	}
	answers(t, p.Commit(), api.ErrArg)
	p.Drop()
	counts(t, p, 0, 0, 0)
}

// W1: one that Open did not make has no FS, and does not panic.
func TestPagerOfItsOwn(t *testing.T) {
	for _, all := range [][]string{{"x"}, many(1100, 500)} {
		var p pages.Pager
		tells(t, &p, nil)
		answers(t, p.Commit(), api.OK)
		p.Drop()
		fill(t, &p, all...)
		answers(t, p.Commit(), api.ErrArg)
		dead(t, &p, of(all...), len(all))
		p.Drop()
		tells(t, &p, nil)
	}
}

// W9: others ask, Sync, Fuse and Crash the FS meanwhile.
func TestOthersMeanwhile(t *testing.T) {
	f, _ := filled(t, 1<<24, "stays")
	var all sync.WaitGroup
	often := rounds(2000)
	all.Go(func() {
		for i := range often {
			p, e := pages.Open(f, "p")
			if e != api.OK {
				continue
			}
			for range 5 {
				p.New()
				p.Put(i%10, []byte(sized(i%500)))
				p.Commit()
				p.Get(i % 10)
				p.Free(i % 20)
			}
			for n := range (i / 50 % 2) * 1100 {
				if all, _ := p.Count(); all <= n {
					p.New()
				}
				p.Put(n, make([]byte, 512))
			}
			p.Commit()
			for n := 20; p.Free(n) == api.OK; n++ {
			}
			p.Commit()
			p.Drop()
		}
	})
	all.Go(func() {
		for i := range often {
			f.Sync()
			f.Fuse(i%9 - 1)
			f.Crash(i % 4)
			f.Names("")
		}
	})
	all.Go(func() {
		for range often / 10 {
			c := f.Copy()
			c.Crash(1)
			pages.Open(c, "p")
		}
	})
	all.Wait()
	f.Crash(0)
	p := opened(t, f)
	fill(t, p, "x")
	ok(t, p.Commit())
	lasts(t, f, told(t, p))
}

// W9: Syncs of others change nothing that a pager answers.
func TestSyncsMeanwhile(t *testing.T) {
	f := disk(t, 1<<24)
	p := opened(t, f)
	var all sync.WaitGroup
	all.Go(func() {
		for range rounds(2000) {
			f.Sync()
			f.Pending()
		}
	})
	var want book
	for i := range rounds(500) {
		fill(t, p, sized(i))
		ok(t, p.Commit())
		want = append(want, leaf{true, sized(i)})
	}
	all.Wait()
	tells(t, p, want)
	lasts(t, f, want)
}

// W8: two pagers over copies of a FS share nothing.
func TestCopies(t *testing.T) {
	f, _ := filled(t, 1<<20, "a")
	both := []*fs.FS{f, f.Copy()}
	for i, g := range both {
		p := opened(t, g)
		fill(t, p, sized(i))
		ok(t, p.Commit())
	}
	for i, g := range both {
		lasts(t, g, of("a", sized(i)))
	}
}
