package btree_test

import (
	"fmt"
	"testing"

	"pantry/api"
	"pantry/btree"
	"pantry/fs"
)

// stuffed is a tree that has all pages, most of them for long values, and what it has.
func stuffed(t *testing.T, f *fs.FS) (*btree.Tree, list) {
	t.Helper()
	x := opened(t, f)
	want := list{}
	for size := api.MaxValue; size > 300; {
		k := fmt.Sprintf("f%05d", len(want))
		if e := x.Put(k, []byte(sized(size))); e == api.OK {
			want[k] = sized(size)
		} else {
			answers(t, e, api.ErrFull)
			size = size * 2 / 3
		}
	}
	if _, pages := x.Shape(); pages != most {
		t.Fatalf("%d pages are taken", pages)
	}
	return x, want
}

// refuses asks for ErrFull, and that nothing is changed then.
func refuses(t *testing.T, x *btree.Tree, k string, size int, want list) {
	t.Helper()
	deep, pages := x.Shape()
	answers(t, x.Put(k, make([]byte, size)), api.ErrFull)
	if d, p := x.Shape(); d != deep || p != pages || x.Len() != len(want) {
		t.Errorf("%d deep, %d pages, %d keys, were %d, %d, %d", d, p, x.Len(), deep, pages, len(want))
	}
	if value, there := want[k]; there {
		has(t, x, k, value)
	} else {
		lacks(t, x, k, api.ErrNone)
	}
}

// P10.2: a pager without a page for a Put, and that nothing is changed then.
func TestNoPage(t *testing.T) {
	f := disk(t, 1<<26)
	x, want := stuffed(t, f)
	tells(t, x, want)
	ok(t, x.Commit())
	first := want.keys()[0]
	for _, size := range []int{300, 509, 510, 5000, api.MaxValue} {
		refuses(t, x, "new", size, want)
		refuses(t, x, "a", size, want)
		refuses(t, x, first+"x", size, want)
	}
	// A Put that was refused leaves nothing for a Commit to do.
	before := state(f)
	f.Fuse(0)
	answers(t, x.Commit(), api.OK)
	f.Fuse(-1)
	if state(f) != before {
		t.Error("the files are others")
	}
	tells(t, x, want)
	x.Drop()
	tells(t, x, want)
	lasts(t, f, want)
}

// P10.2: what a key has already is room for its other value.
func TestNoPageMore(t *testing.T) {
	f := disk(t, 1<<26)
	x, want := stuffed(t, f)
	for i, k := range want.keys() {
		old := len(want[k])
		for _, size := range []int{old, old - 1, 0, old, 100, old} {
			value := sized(size/2) + sized(size-size/2)
			put(t, x, k, value)
			want[k] = value
			has(t, x, k, value)
		}
		if old < api.MaxValue-600 {
			refuses(t, x, k, old+600, want)
		}
		if i%20 == 0 {
			tells(t, x, want)
		}
	}
	ok(t, x.Commit())
	lasts(t, f, want)
	// A page that is given back is enough for what needs one.
	refuses(t, x, "new", 500, want)
	k := want.keys()[5]
	put(t, x, k, want[k][:len(want[k])-509])
	put(t, x, "new", sized(500))
	refuses(t, x, "other", 500, want.with("new", sized(500)))
	has(t, x, "new", sized(500))
}

// P10.2: small keys go in as long as they need no page, and then not even one of them.
func TestNoPageForSmallOnes(t *testing.T) {
	f := disk(t, 1<<26)
	x, want := stuffed(t, f)
	added := 0
	for i := range 1000 {
		k := fmt.Sprintf("f%05dx", i%len(want))
		k += sized(i % 150)
		if _, there := want[k]; there {
			continue
		}
		if e := x.Put(k, nil); e == api.OK {
			want[k] = ""
			added++
		} else {
			answers(t, e, api.ErrFull)
			refuses(t, x, k, 0, want)
		}
	}
	if added == 0 || added == 1000 {
		t.Errorf("%d went in", added)
	}
	tells(t, x, want)
	ok(t, x.Commit())
	lasts(t, f, want)
}

// P10.2: a Delete needs no page, in whatever order all keys go.
func TestDeleteWithoutPage(t *testing.T) {
	f := disk(t, 1<<26)
	x, want := stuffed(t, f)
	ok(t, x.Commit())
	for _, order := range orders(len(want)) {
		all := want.keys()
		for i, at := range order {
			ok(t, x.Delete(all[at]))
			if x.Len() != len(all)-i-1 {
				t.Fatal(x.Len())
			}
		}
		empty(t, x)
		x.Drop()
		tells(t, x, want)
	}
}

// P10.2: a tree of short entries alone that has all pages.
func TestNoPageOfNodes(t *testing.T) {
	f := disk(t, 1<<26)
	x := opened(t, f)
	want := list{}
	for i := 0; ; i++ {
		k := key(i*7919%100003, 150+i%50)
		if e := x.Put(k, []byte(sized(50))); e != api.OK {
			answers(t, e, api.ErrFull)
			refuses(t, x, k, 50, want)
			break
		}
		want[k] = sized(50)
	}
	if _, pages := x.Shape(); pages < most-2 {
		t.Errorf("%d pages are taken", pages)
	}
	tells(t, x, want)
	ok(t, x.Commit())
	lasts(t, f, want)
	for i, k := range want.keys() {
		if i%3 > 0 {
			ok(t, x.Delete(k))
			delete(want, k)
		}
	}
	tells(t, x, want)
	ok(t, x.Commit())
	lasts(t, f, want)
}

// leave lets a FS have so many bytes left, by files that take all others.
func leave(t *testing.T, f *fs.FS, room, left int) {
	t.Helper()
	for _, name := range f.Names("filler") {
		ok(t, f.Remove(name))
	}
	for f.Used()+left < room {
		size := min(room-f.Used()-left, api.MaxFile)
		ok(t, f.Write(fmt.Sprint("filler", f.Used()), make([]byte, size)))
	}
	ok(t, f.Sync())
}

// P10.4: a FS without room, and a Commit that then has room, or another one behind a Drop.
func TestRoomLater(t *testing.T) {
	const room = 1 << 20
	for _, before := range []list{{}, of("a", "1", "b", sized(900)), many(300, 50, 50)} {
		for _, drop := range []bool{false, true} {
			f, x := made(t, room, before)
			leave(t, f, room, 0)
			now := before.with("c", sized(3000)).with("d", "4")
			puts(t, x, now)
			if len(before) > 0 {
				ok(t, x.Delete(before.keys()[0]))
				delete(now, before.keys()[0])
			}
			for range 3 {
				answers(t, x.Commit(), api.ErrFull)
				tells(t, x, now)
				lasts(t, f, before)
			}
			// It is not dead.
			put(t, x, "e", "5")
			ok(t, x.Delete("d"))
			now["e"] = "5"
			delete(now, "d")
			answers(t, x.Commit(), api.ErrFull)
			tells(t, x, now)
			if drop {
				x.Drop()
				tells(t, x, before)
				put(t, x, "f", "6")
				now = before.with("f", "6")
			}
			leave(t, f, room, room/2)
			ok(t, x.Commit())
			tells(t, x, now)
			lasts(t, f, now)
		}
	}
}

// P10.4: whatever is left of the room, a Commit is done or leaves all as it was.
func TestLittleRoom(t *testing.T) {
	const room = 1 << 16
	before := many(100, 50, 50)
	base, _ := made(t, room, before)
	step, done := 97, false
	if testing.Short() {
		step = 700
	}
	for left := 0; !done; left += step {
		f := base.Copy()
		leave(t, f, room, left)
		x := opened(t, f)
		for i, k := range before.keys() {
			if i%2 == 0 {
				ok(t, x.Delete(k))
			}
		}
		put(t, x, "long", sized(5000))
		now := told(t, x)
		e := x.Commit()
		tells(t, x, now)
		done = e == api.OK
		if done {
			lasts(t, f, now)
			break
		}
		answers(t, e, api.ErrFull)
		lasts(t, f, before)
		leave(t, f, room, room/2)
		ok(t, x.Commit())
		lasts(t, f, now)
	}
}
