package btree_test

import (
	"fmt"
	"strconv"
	"sync"
	"sync/atomic"
	"testing"

	"pantry/api"
	"pantry/btree"
	"pantry/fs"
)

// P10.7, W6: values that are handed in stay, with the room behind them, and are not kept.
func TestValuesAreNotKept(t *testing.T) {
	for _, size := range []int{5, 252, 253, 600, 5000} {
		f, x := made(t, 1<<20, of("a", "1"))
		b := []byte(sized(size) + "behind")
		ok(t, x.Put("a", b[:size]))
		ok(t, x.Put("b", b[:0]))
		ok(t, x.Put("c", b[1:size-1]))
		if string(b) != sized(size)+"behind" {
			t.Errorf("what was handed in is %q", b)
		}
		clear(b)
		want := of("a", sized(size), "b", "", "c", sized(size)[1:size-1])
		tells(t, x, want)
		ok(t, x.Commit())
		tells(t, x, want)
		lasts(t, f, want)
	}
}

// P10.7, W6: keys, where a Range begins, and the name are not kept.
func TestTextsAreNotKept(t *testing.T) {
	f := disk(t, 1<<24)
	name, n := borrowed("name")
	x, e := btree.Open(f, name)
	ok(t, e)
	copy(n, "gone")
	k, b := borrowed("key000")
	from, c := borrowed("key5")
	some := x.Range(from)
	copy(c, "zzzz")
	want := list{}
	for i := range 900 {
		copy(b[3:], fmt.Sprintf("%03d", i))
		ok(t, x.Put(k, []byte(sized(i))))
		want[fmt.Sprintf("key%03d", i)] = sized(i)
		if i%9 == 0 {
			ok(t, x.Delete(k))
			delete(want, fmt.Sprintf("key%03d", i))
		}
		if i%7 == 0 {
			x.Get(k)
		}
	}
	clear(b)
	tells(t, x, want)
	got := 0
	for k, value := range some {
		if k < "key5" || want[k] != string(value) {
			t.Errorf("%q", k)
		}
		got++
	}
	if got != len(want.from("key5")) {
		t.Errorf("%d keys, want %d", got, len(want.from("key5")))
	}
	ok(t, x.Commit())
	x, e = btree.Open(f, "name")
	ok(t, e)
	tells(t, x, want)
}

// P10.7, W6: what is answered is new memory each time, keys of a Range too.
func TestAnswersAreNewMemory(t *testing.T) {
	want := list{}
	for i := range 100 {
		want[key(i, 10+i)] = sized(i * i)
	}
	f, x := made(t, 1<<24, want)
	given := []byte("given")
	ok(t, x.Put("given", given))
	all := []span{spanOf(given)}
	for i, y := range []*btree.Tree{x, x, opened(t, f), opened(t, f)} {
		for k := range want {
			b, e := y.Get(k)
			ok(t, e)
			all = append(all, spanOf(b))
		}
		for k, b := range y.Range("") {
			all = append(all, spanOf(b), spanOfText(k))
			if i == 0 && k == key(50, 60) {
				// The rest comes by another way.
				put(t, x, "given", "other")
			}
		}
	}
	if meet(all) {
		t.Error("answers share memory")
	}
}

// P10.7, W7: what becomes of an answer is not seen in the tree, nor what becomes of the tree in an answer.
func TestAnswersStay(t *testing.T) {
	want := of("a", "12345", "b", "", "c", sized(300), "d", sized(2000), "e", "54321")
	f, x := made(t, 1<<24, want)
	spoil := func(b []byte) {
		b = b[:cap(b)]
		for i := range b {
			b[i] = '!'
		}
	}
	for _, y := range []*btree.Tree{x, opened(t, f)} {
		for k := range want {
			b, e := y.Get(k)
			ok(t, e)
			spoil(b)
		}
		tells(t, y, want)
		for _, b := range y.Range("") {
			spoil(b)
		}
		for k, b := range y.Range("") {
			if k == "b" {
				put(t, y, "a", "other")
				y.Drop()
			}
			spoil(b)
		}
		tells(t, y, want)
	}
	var kept [][]byte
	for k := range want {
		b, e := x.Get(k)
		ok(t, e)
		kept = append(kept, b, []byte(want[k]))
		put(t, x, k, sized(len(want[k]))+"x")
		ok(t, x.Delete(k))
	}
	ok(t, x.Commit())
	for i := 0; i < len(kept); i += 2 {
		if string(kept[i]) != string(kept[i+1]) {
			t.Errorf("what was answered is %.20q", kept[i])
		}
	}
}

// P10.7: a nil Tree.
func TestNil(t *testing.T) {
	var x *btree.Tree
	for _, k := range []string{"", "a", sized(201)} {
		answers(t, x.Put(k, nil), api.ErrArg)
		answers(t, x.Put(k, make([]byte, api.MaxValue+1)), api.ErrArg)
		answers(t, x.Delete(k), api.ErrArg)
		lacks(t, x, k, api.ErrNone)
		for range x.Range(k) {
			t.Error("it hands on something")
		}
	}
	answers(t, x.Commit(), api.ErrArg)
	x.Drop()
	if deep, pages := x.Shape(); deep != 0 || pages != 0 || x.Len() != 0 {
		t.Error(deep, pages, x.Len())
	}
}

// W1: one that Open did not make has no pages, and does not panic.
func TestTreeOfItsOwn(t *testing.T) {
	var x btree.Tree
	for range 2 {
		answers(t, x.Put("a", nil), api.ErrArg)
		answers(t, x.Delete("a"), api.ErrArg)
		answers(t, x.Commit(), api.ErrArg)
		lacks(t, &x, "a", api.ErrNone)
		lacks(t, &x, "", api.ErrName)
		x.Drop()
		for range x.Range("") {
			t.Error("it hands on something")
		}
		if deep, pages := x.Shape(); deep != 0 || pages != 0 || x.Len() != 0 {
			t.Error(deep, pages, x.Len())
		}
	}
}

// W8: two trees over copies of a FS share nothing, nor do two over one.
func TestCopies(t *testing.T) {
	f, _ := made(t, 1<<20, of("a", "1"))
	both := []*fs.FS{f, f.Copy()}
	for i, g := range both {
		x, y := opened(t, g), opened(t, g)
		put(t, x, "b", sized(i))
		put(t, y, "b", "lost")
		ok(t, x.Commit())
		tells(t, x, of("a", "1", "b", sized(i)))
	}
	for i, g := range both {
		lasts(t, g, of("a", "1", "b", sized(i)))
	}
}

// W9: others Crash the FS meanwhile, and ask, Sync and Fuse it: nothing panics, whatever is answered.
func TestCrashedMeanwhile(t *testing.T) {
	f, _ := made(t, 1<<24, of("first", "1"))
	var all sync.WaitGroup
	var ended atomic.Bool
	often := rounds(600)
	all.Go(func() {
		defer ended.Store(true)
		// A burnt fuse lets none be opened, till the next Crash.
		for tries, i := 0, 0; i < often && tries < often*1000; tries++ {
			x, e := btree.Open(f, "b")
			if e != api.OK {
				continue
			}
			i++
			for n := range 20 {
				x.Put(key(n*i%50, 40), []byte(sized(i)))
				x.Delete(key(n*n%50, 40))
				x.Get(key(n, 40))
				x.Commit()
			}
			for range x.Range("") {
			}
			x.Drop()
		}
	})
	all.Go(func() {
		for i := 0; !ended.Load(); i++ {
			f.Sync()
			f.Fuse(i%40 - 1)
			f.Crash(i % 4)
			f.Names("")
		}
	})
	all.Go(func() {
		for range often / 10 {
			c := f.Copy()
			c.Crash(1)
			btree.Open(c, "b")
		}
	})
	all.Wait()
	f.Crash(0)
	if x, e := btree.Open(f, "b"); e == api.OK {
		x.Put("x", []byte("2"))
		x.Commit()
		for range x.Range("") {
		}
		x.Shape()
	}
}

// numbered are the keys of the Commit n: two that are always there, and one of its own.
func numbered(n int64) list {
	return of("a", fmt.Sprint(n), "b", fmt.Sprint(n, sized(int(n*37%900))), key(int(n), 40), "own")
}

// commits changes a tree from one Commit's keys to those of the next.
func commits(t *testing.T, x *btree.Tree, n int64) api.Errno {
	t.Helper()
	if n > 0 {
		ok(t, x.Delete(key(int(n-1), 40)))
	}
	puts(t, x, numbered(n))
	return x.Commit()
}

// between asks for the keys of a Commit, the least and the most it may have been.
func between(t *testing.T, f *fs.FS, least, most int64) int64 {
	t.Helper()
	x, e := btree.Open(f, "b")
	if e != api.OK {
		t.Errorf("Open: %v", e)
		return least
	}
	b, _ := x.Get("a")
	n, err := strconv.ParseInt(string(b), 10, 64)
	if err != nil || n < least || n > most || !told(t, x).same(numbered(n)) {
		t.Errorf("%v, not %d to %d", told(t, x), least, most)
	}
	return n
}

// W9, P10.6: others ask, Sync and Fuse the FS meanwhile, and Crash copies of it, but not the FS itself: there is what
// the last Commit left that answered OK, or the one that erred.
func TestOthersMeanwhile(t *testing.T) {
	f := disk(t, 1<<24)
	ok(t, commits(t, opened(t, f), 0))
	var tried, done atomic.Int64
	for i := range rounds(200) {
		var all sync.WaitGroup
		all.Go(func() {
			for n := range 10 {
				f.Sync()
				f.Names("")
				least := done.Load()
				c := f.Copy()
				most := tried.Load()
				c.Crash(n % 4)
				between(t, c, least, most)
			}
			f.Fuse(i % 9)
		})
		x, e := btree.Open(f, "b")
		for range 60 {
			if e != api.OK {
				break
			}
			n := tried.Add(1)
			if e = commits(t, x, n); e == api.OK {
				done.Store(n)
			}
		}
		all.Wait()
		if e != api.OK {
			answers(t, e, api.ErrDead)
		}
		f.Crash(i % 4)
		n := between(t, f, done.Load(), tried.Load())
		tried.Store(n)
		done.Store(n)
	}
}
