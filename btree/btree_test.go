package btree_test

import (
	"fmt"
	"strings"
	"testing"

	"pantry/api"
	"pantry/btree"
	"pantry/fs"
	"pantry/pages"
)

// The chapter's example.
func TestExample(t *testing.T) {
	x := opened(t, disk(t, 1<<20))
	put(t, x, "b", "2")
	put(t, x, "a", "1")
	if got := fmt.Sprint(ranged(x, "")); got != "[{a 1} {b 2}]" {
		t.Error(got)
	}
	ok(t, x.Delete("b"))
	if x.Len() != 1 {
		t.Error(x.Len())
	}
}

// P10.1: what may not be handed in.
func TestOpenArgs(t *testing.T) {
	f := disk(t, 1<<20)
	for _, x := range []struct {
		f    *fs.FS
		name string
		want api.Errno
	}{
		{nil, "b", api.ErrArg},
		{nil, "", api.ErrArg},
		{f, "", api.ErrArg},
		{f, sized(101), api.ErrArg},
		{f, sized(1 << 16), api.ErrArg},
		{f, sized(100), api.OK},
		{f, "b", api.OK},
		{f, "\x00", api.OK},
		{f, "\xff/. \n", api.OK},
	} {
		got, e := btree.Open(x.f, x.name)
		if e != x.want || (got == nil) != (e != api.OK) {
			t.Errorf("Open(%.10q of %d bytes): %v, %v", x.name, len(x.name), got, e)
		}
	}
}

// P10.1: an error of the FS, if it cannot last what would be told.
func TestOpenErrors(t *testing.T) {
	f, _ := made(t, 1<<20, of("a", "1"))
	f.Fuse(0)
	tells(t, opened(t, f), of("a", "1"))
	f.Fuse(-1)
	ok(t, f.Write("other", nil))
	f.Fuse(0)
	if x, e := btree.Open(f, "b"); x != nil || e != api.ErrDead {
		t.Errorf("Open: %v, %v", x, e)
	}
	f.Fuse(-1)
	tells(t, opened(t, f), of("a", "1"))
}

// P10.1: where there is nothing there is no key; and Open changes no file.
func TestOpenNothing(t *testing.T) {
	f := disk(t, 0)
	x := opened(t, f)
	tells(t, x, nil)
	lacks(t, x, "a", api.ErrNone)
	put(t, x, "a", "1")
	x.Drop()
	tells(t, x, nil)
	if deep, pages := x.Shape(); deep != 0 || pages != 0 {
		t.Error(deep, pages)
	}
	tells(t, opened(t, f), nil)
	if len(f.Names("")) != 0 || f.Pending() != 0 {
		t.Errorf("there is %s", state(f))
	}
}

// P10.1, P10.4: several Commits, and a tree opened anew behind each.
func TestOpenAnew(t *testing.T) {
	f := disk(t, 1<<22)
	want := list{}
	for i := range 120 {
		before := state(f)
		x := opened(t, f)
		tells(t, x, want)
		if state(f) != before {
			t.Error("Open changed something")
		}
		k := key(i*37%120, 6+i)
		put(t, x, k, sized(i*i%1500))
		want[k] = sized(i * i % 1500)
		if i%3 == 2 {
			gone := want.keys()[i/4]
			ok(t, x.Delete(gone))
			delete(want, gone)
		}
		tells(t, x, want)
		ok(t, x.Commit())
		tells(t, x, want)
		if f.Pending() != 0 {
			t.Errorf("%d things are pending", f.Pending())
		}
		lasts(t, f, want)
	}
}

// P10.1: trees of all names work, each for itself, in files whose names begin so.
func TestNames(t *testing.T) {
	f := disk(t, 1<<26)
	names := []string{"b", "q", "\x00", "\xff/", ".", strings.Repeat("z", 100)}
	for i, name := range names {
		x, e := btree.Open(f, name)
		ok(t, e)
		tells(t, x, nil)
		puts(t, x, many(200+i, 20, 100*i))
		ok(t, x.Commit())
	}
	f.Crash(0)
	for i, name := range names {
		x, e := btree.Open(f, name)
		ok(t, e)
		tells(t, x, many(200+i, 20, 100*i))
	}
}

// P10.2: a key has 1 to MaxKey bytes, any, and they are in the order of their bytes.
func TestKeys(t *testing.T) {
	f := disk(t, 1<<22)
	x := opened(t, f)
	want := list{}
	add := func(key string) {
		t.Helper()
		put(t, x, key, fmt.Sprint(len(want)))
		want[key] = fmt.Sprint(len(want))
	}
	for c := range 256 {
		one := string([]byte{byte(c * 7)})
		add(one)
		add(strings.Repeat(one, api.MaxKey))
		add(strings.Repeat(one, api.MaxKey-1))
		add(one + "\x00")
		add("\xff" + one + "\xff")
	}
	add("ä")
	add("\xc3")
	add("日本")
	tells(t, x, want)
	for key, value := range want {
		has(t, x, key, value)
	}
	ok(t, x.Commit())
	lasts(t, f, want)
	for _, key := range []string{"", sized(api.MaxKey + 1), sized(1 << 16), strings.Repeat("\x00", 256), strings.Repeat("\xff", 512)} {
		answers(t, x.Put(key, nil), api.ErrName)
		// ErrName comes ahead of ErrLong.
		answers(t, x.Put(key, make([]byte, api.MaxValue+1)), api.ErrName)
		answers(t, x.Delete(key), api.ErrName)
		lacks(t, x, key, api.ErrName)
	}
	tells(t, x, want)
}

// sizes is lengths of values at which the way in which they lie may change.
func sizes(key int) []int {
	all := []int{0, 1, 2, 508, 509, 510, 511, 512, 513, 1017, 1018, 1019, 1020, 1021, 1022, 1023, 1024, 5000, 1<<15 + 7, api.MaxValue - 1, api.MaxValue}
	for size := 245 - key; size < 258-key; size++ {
		all = append(all, max(size, 0))
	}
	return all
}

// P10.2: a value has at most MaxValue bytes, with the shortest and the longest keys.
func TestValues(t *testing.T) {
	for _, k := range []string{"k", key(7, 100), key(7, api.MaxKey)} {
		f := disk(t, 1<<22)
		x := opened(t, f)
		for _, size := range sizes(len(k)) {
			put(t, x, k, sized(size))
			tells(t, x, of(k, sized(size)))
			ok(t, x.Commit())
			lasts(t, f, of(k, sized(size)))
			for _, more := range []int{1, 2, 1 << 16, 1<<18 + 5} {
				answers(t, x.Put(k, make([]byte, api.MaxValue+more)), api.ErrLong)
				answers(t, x.Put("other", make([]byte, api.MaxValue+more)), api.ErrLong)
			}
			tells(t, x, of(k, sized(size)))
		}
		ok(t, x.Delete(k))
		tells(t, x, nil)
		put(t, x, k, "")
		has(t, x, k, "")
		if e := x.Put(k, nil); e != api.OK || x.Len() != 1 {
			t.Error(e, x.Len())
		}
	}
}

// P10.2: a value has any bytes.
func TestAnyBytes(t *testing.T) {
	x := opened(t, disk(t, 1<<22))
	want := list{}
	for _, size := range []int{1, 2, 200, 254, 600, 3000} {
		for c := range 256 {
			k := fmt.Sprint(size, "/", c)
			want[k] = strings.Repeat(string([]byte{byte(c)}), size)
			put(t, x, k, want[k])
		}
	}
	for k, value := range want {
		has(t, x, k, value)
	}
}

// P10.2: a key that gets another value, a longer and a shorter one, and what the shape is then.
func TestOtherValues(t *testing.T) {
	for _, size := range []int{1, 50, api.MaxKey} {
		f := disk(t, 1<<24)
		x := opened(t, f)
		want := list{}
		for i := range 7 {
			want[sized(size-1)+string(rune('a'+i))] = sized(i * 30)
		}
		puts(t, x, want)
		k := sized(size-1) + "d"
		pages := map[int]int{}
		all := sizes(size)
		for i, from := range all {
			for _, to := range append(all[i:], from) {
				put(t, x, k, sized(to))
				want[k] = sized(to)
				has(t, x, k, want[k])
				if x.Len() != 7 {
					t.Error(x.Len())
				}
				shaped(t, x, want)
				// What the old value had is given back.
				_, n := x.Shape()
				if was, known := pages[to]; known && was != n {
					t.Errorf("with %d bytes it has %d pages, had %d", to, n, was)
				}
				pages[to] = n
			}
			tells(t, x, want)
		}
		ok(t, x.Commit())
		lasts(t, f, want)
	}
}

// P10.2: keys that are not there, ahead of all, between others, and behind all.
func TestNotThere(t *testing.T) {
	x := opened(t, disk(t, 1<<24))
	answers(t, x.Delete("a"), api.ErrNone)
	lacks(t, x, "a", api.ErrNone)
	want := many(600, 50, 50)
	puts(t, x, want)
	for _, k := range want.keys() {
		for _, other := range []string{k + "x", k[:len(k)-1], k + "\x00", k[:len(k)-1] + "\x00"} {
			lacks(t, x, other, api.ErrNone)
			answers(t, x.Delete(other), api.ErrNone)
		}
	}
	for _, other := range []string{"\x00", "0", "1", "a", "\xff", strings.Repeat("\xff", api.MaxKey), strings.Repeat("\x00", api.MaxKey)} {
		lacks(t, x, other, api.ErrNone)
		answers(t, x.Delete(other), api.ErrNone)
	}
	tells(t, x, want)
	// A Delete of what is not there changes nothing.
	ok(t, x.Commit())
	answers(t, x.Delete("a"), api.ErrNone)
	x.Drop()
	tells(t, x, want)
	ok(t, x.Delete(key(5, 50)))
	delete(want, key(5, 50))
	answers(t, x.Delete(key(5, 50)), api.ErrNone)
	lacks(t, x, key(5, 50), api.ErrNone)
	tells(t, x, want)
}

// P10.2, P10.5, P10.6: so many keys that nodes part and are joined again, put and deleted in all orders.
func TestManyKeys(t *testing.T) {
	for _, y := range []struct{ n, keys, values int }{{900, 50, 50}, {900, 6, 0}, {300, api.MaxKey, 0}, {250, 100, 153}, {250, 100, 154}, {300, 20, 600}, {3000, 90, 10}} {
		n := y.n
		if testing.Short() {
			n = min(n, 800)
		}
		want := many(n, y.keys, y.values)
		all := want.keys()
		for up, rise := range orders(n) {
			for down, fall := range orders(n) {
				if testing.Short() && up != down || n > 1000 && (up == "rising" || down == "falling") {
					continue
				}
				x := opened(t, disk(t, 1<<26))
				manyKeys(t, x, all, want, rise, fall)
				if t.Failed() {
					t.Fatalf("%v, %s, %s", y, up, down)
				}
			}
		}
	}
}

// manyKeys puts keys in one order, and deletes them in another one.
func manyKeys(t *testing.T, x *btree.Tree, all []string, want list, rise, fall []int) {
	t.Helper()
	now := list{}
	for i, n := range rise {
		put(t, x, all[n], want[all[n]])
		now[all[n]] = want[all[n]]
		if x.Len() != i+1 {
			t.Fatal(x.Len())
		}
		if i%97 == 0 {
			tells(t, x, now)
		}
	}
	tells(t, x, now)
	for i, n := range fall {
		ok(t, x.Delete(all[n]))
		delete(now, all[n])
		lacks(t, x, all[n], api.ErrNone)
		if i%97 == 0 || len(now) < 10 {
			tells(t, x, now)
		}
	}
	empty(t, x)
}

// empty asks for a tree without a key.
func empty(t *testing.T, x *btree.Tree) {
	t.Helper()
	tells(t, x, nil)
	if deep, pages := x.Shape(); deep != 0 || pages != 0 || x.Len() != 0 {
		t.Errorf("without a key it has %d keys, is %d deep and has %d pages", x.Len(), deep, pages)
	}
}

// P10.2, P10.5: all keys deleted, and what is left then, also behind a Commit; and it goes on from there.
func TestAllDeleted(t *testing.T) {
	f := disk(t, 1<<24)
	x := opened(t, f)
	for i := range 5 {
		want := many(500, 30, i*150)
		puts(t, x, want)
		tells(t, x, want)
		if i%2 == 0 {
			ok(t, x.Commit())
		}
		for _, k := range want.keys() {
			ok(t, x.Delete(k))
		}
		empty(t, x)
		lacks(t, x, key(1, 30), api.ErrNone)
		answers(t, x.Delete(key(1, 30)), api.ErrNone)
		ok(t, x.Commit())
		lasts(t, f, nil)
		p, e := pages.Open(f, "b")
		ok(t, e)
		if all, free := p.Count(); all != free {
			t.Errorf("%d pages, %d of them free", all, free)
		}
		x = opened(t, f)
		empty(t, x)
	}
}

// P10.4: Drop behind Put and Delete, with Len and Shape.
func TestDrop(t *testing.T) {
	want := many(400, 60, 40).with("long", sized(5000))
	f, x := made(t, 1<<24, want)
	deep, pages := x.Shape()
	for _, change := range []func(){
		func() {},
		func() { put(t, x, "new", "1") },
		func() { put(t, x, "long", "short") },
		func() { put(t, x, key(3, 60), sized(5000)) },
		func() { ok(t, x.Delete("long")) },
		func() { puts(t, x, many(900, 50, 50)) },
		func() { ok(t, x.Delete(key(3, 60))); put(t, x, key(3, 60), "back") },
		func() {
			for _, k := range want.keys() {
				ok(t, x.Delete(k))
			}
		},
		func() {
			for _, k := range want.keys() {
				ok(t, x.Delete(k))
			}
			put(t, x, "other", sized(3000))
		},
	} {
		change()
		x.Drop()
		tells(t, x, want)
		if d, p := x.Shape(); d != deep || p != pages {
			t.Errorf("%d deep, %d pages, want %d, %d", d, p, deep, pages)
		}
		ok(t, x.Commit())
		lasts(t, f, want)
		x.Drop()
		tells(t, x, want)
	}
	// What was dropped does not come along with what is changed then.
	put(t, x, "lost", "lost")
	ok(t, x.Delete("long"))
	x.Drop()
	put(t, x, "new", "1")
	ok(t, x.Delete(key(7, 60)))
	want["new"] = "1"
	delete(want, key(7, 60))
	tells(t, x, want)
	ok(t, x.Commit())
	x.Drop()
	tells(t, x, want)
	lasts(t, f, want)
}

// P10.4: a Commit with nothing changed does nothing, not even with a burnt fuse, or where there is no room.
func TestCommitNothing(t *testing.T) {
	for _, want := range []list{nil, of("a", "1", "b", sized(600))} {
		f, x := made(t, 2000, want)
		ok(t, f.Write("other", make([]byte, 2000-f.Used())))
		before := state(f)
		answers(t, x.Commit(), api.OK)
		f.Fuse(0)
		answers(t, x.Commit(), api.OK)
		put(t, x, "x", "")
		x.Drop()
		answers(t, x.Commit(), api.OK)
		answers(t, x.Delete("none"), api.ErrNone)
		answers(t, x.Put("", nil), api.ErrName)
		answers(t, x.Put("k", make([]byte, api.MaxValue+1)), api.ErrLong)
		answers(t, x.Commit(), api.OK)
		if state(f) != before || f.Pending() != 1 {
			t.Errorf("there is %s, was %s", state(f), before)
		}
		tells(t, x, want)
	}
}

// P10.4: what was changed does not last ahead of its Commit.
func TestNotYet(t *testing.T) {
	f, x := made(t, 1<<20, of("a", "1", "b", "2"))
	put(t, x, "a", "3")
	put(t, x, "c", sized(1000))
	ok(t, x.Delete("b"))
	lasts(t, f, of("a", "1", "b", "2"))
	if f.Pending() != 0 {
		t.Errorf("%d things are pending", f.Pending())
	}
	ok(t, x.Commit())
	lasts(t, f, of("a", "3", "c", sized(1000)))
}

// dead asks a tree for ErrDead, whatever it is told, and for what it has.
func dead(t *testing.T, x *btree.Tree, want list) {
	t.Helper()
	for range 2 {
		for _, k := range []string{"", "a", "none", sized(201)} {
			answers(t, x.Put(k, nil), api.ErrDead)
			answers(t, x.Put(k, make([]byte, api.MaxValue+1)), api.ErrDead)
			answers(t, x.Delete(k), api.ErrDead)
		}
		answers(t, x.Commit(), api.ErrDead)
		tells(t, x, want)
		lacks(t, x, "", api.ErrName)
		lacks(t, x, "none", api.ErrNone)
	}
}

// P10.4: behind an error of the FS the tree is dead, also where the FS is not any more; what was changed is changed.
func TestDead(t *testing.T) {
	for fuse := range 2 {
		f, x := made(t, 1<<20, of("a", "1", "b", sized(700)))
		put(t, x, "a", "2")
		put(t, x, "c", sized(800))
		ok(t, x.Delete("b"))
		f.Fuse(fuse)
		answers(t, x.Commit(), api.ErrDead)
		now := of("a", "2", "c", sized(800))
		dead(t, x, now)
		f.Fuse(-1)
		dead(t, x, now)
		x.Drop()
		dead(t, x, of("a", "1", "b", sized(700)))
		x.Drop()
		dead(t, x, of("a", "1", "b", sized(700)))
		f.Crash(0)
		lasts(t, f, of("a", "1", "b", sized(700)))
	}
}

// P10.4: any error of the FS but ErrFull does it: here a file that somebody took away.
func TestDeadWithoutFiles(t *testing.T) {
	f, x := made(t, 1<<20, of("a", "1"))
	for _, name := range f.Names("b") {
		ok(t, f.Remove(name))
	}
	put(t, x, "b", "2")
	answers(t, x.Commit(), api.ErrNone)
	dead(t, x, of("a", "1", "b", "2"))
}

// P10.4: a burnt fuse is no error till the FS is asked for something.
func TestFuseAlone(t *testing.T) {
	f, x := made(t, 1<<20, of("a", "1"))
	f.Fuse(0)
	put(t, x, "b", "2")
	ok(t, x.Delete("a"))
	tells(t, x, of("b", "2"))
	x.Drop()
	ok(t, x.Commit())
	put(t, x, "c", "3")
	f.Fuse(-1)
	ok(t, x.Commit())
	lasts(t, f, of("a", "1", "c", "3"))
}

// P10.4: what is dead is one tree, not the others of its FS.
func TestDeadAlone(t *testing.T) {
	f := disk(t, 1<<20)
	x := opened(t, f)
	y, e := btree.Open(f, "y")
	ok(t, e)
	put(t, x, "a", "1")
	put(t, y, "b", "2")
	f.Fuse(0)
	answers(t, x.Commit(), api.ErrDead)
	f.Fuse(-1)
	ok(t, y.Commit())
	tells(t, y, of("b", "2"))
	dead(t, x, of("a", "1"))
	x = opened(t, f)
	put(t, x, "c", "3")
	ok(t, x.Commit())
	tells(t, x, of("c", "3"))
}

// W2: where keys lie does not hang on anything but what was done.
func TestSameFiles(t *testing.T) {
	var first string
	for range 5 {
		f := disk(t, 1<<24)
		x := opened(t, f)
		for _, n := range dice().Perm(700) {
			put(t, x, key(n, 40), sized(n))
			if n%5 == 0 {
				ok(t, x.Delete(key(n, 40)))
			}
		}
		ok(t, x.Commit())
		if first == "" {
			first = state(f)
		}
		if state(f) != first {
			t.Error("the files are others")
		}
	}
}
