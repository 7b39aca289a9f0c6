package db_test

import (
	"fmt"
	"reflect"
	"slices"
	"sync"
	"sync/atomic"
	"testing"

	"pantry/api"
	"pantry/btree"
	"pantry/db"
	"pantry/fs"
)

// P11.8, W6: what is handed in stays, with the room behind the ends of its lists.
func TestHandedInStays(t *testing.T) {
	a, b, c := named("a"), named("b"), named("c")
	info := func() []api.Info {
		return []api.Info{{Path: c, Refs: []api.Path{c, b, a, b, "behind"}[:4], Sigs: []string{"z", "y", "z", "x", "behind"}[:4]}, one(b, a), one(a), {Path: "behind"}}
	}
	_, d := made(t)
	l, m := info(), info()
	for range 2 {
		ok(t, d.Register(l[:3]))
		if !reflect.DeepEqual(l, m) || l[0].Refs[:5][4] != "behind" || l[0].Sigs[:5][4] != "behind" {
			t.Errorf("what was handed in is %v", l)
		}
	}
	for _, call := range []func([]api.Path) ([]api.Path, api.Errno){d.Closure, d.Order} {
		p := []api.Path{c, a, c, b, "behind"}
		got, e := call(p[:4])
		ok(t, e)
		for i := range got[:cap(got)] {
			got[:cap(got)][i] = "spoilt"
		}
		if !slices.Equal(p, []api.Path{c, a, c, b, "behind"}) {
			t.Errorf("what was handed in is %v", p)
		}
	}
}

// P11.8, W6: texts and lists that are handed in are not kept.
func TestHandedInIsNotKept(t *testing.T) {
	f := disk(t, 1<<24)
	name, n := borrowed("name")
	d, e := db.Open(f, name)
	ok(t, e)
	copy(n, "gone")
	a, aBytes := borrowed(named("a"))
	b, bBytes := borrowed(named("b"))
	drv, drvBytes := borrowed(named("drv"))
	s, sBytes := borrowed("sig")
	out, outBytes := borrowed("out")
	l := []api.Info{{Path: b, Refs: []api.Path{a}, Deriver: drv, Sigs: []string{s}}, {Path: a}}
	ok(t, d.Register(l))
	ok(t, d.Realise(api.Realised{Drv: drv, Out: out, Path: b}))
	x, e := d.Get(b)
	ok(t, e)
	closure, e := d.Closure([]api.Path{b})
	ok(t, e)
	order, e := d.Order([]api.Path{b, a})
	ok(t, e)
	p, e := d.Realised(drv, out)
	ok(t, e)
	referrers := d.Referrers(a)
	clear(l[0].Refs)
	clear(l[0].Sigs)
	clear(l)
	for _, bytes := range [][]byte{aBytes, bBytes, drvBytes, sBytes, outBytes} {
		clear(bytes)
	}
	want := nothing()
	ok(t, want.register([]api.Info{{Path: named("b"), Refs: []api.Path{named("a")}, Deriver: named("drv"), Sigs: []string{"sig"}}, one(named("a"))}))
	want.told[output{named("drv"), "out"}] = named("b")
	tells(t, d, want)
	if !same(x, want.infos[named("b")]) || p != named("b") {
		t.Errorf("what was answered is %v, %q", x, p)
	}
	lists(t, closure, rising(named("a"), named("b"))...)
	lists(t, order, named("a"), named("b"))
	lists(t, referrers, named("b"))
	ok(t, d.Commit())
	d, e = db.Open(f, "name")
	ok(t, e)
	tells(t, d, want)
}

// P11.8, W6: what is answered is new memory each time.
func TestAnswersAreNewMemory(t *testing.T) {
	all := some(30)
	var l []api.Info
	for i, p := range all {
		l = append(l, api.Info{Path: p, Refs: all[:i+1], Deriver: all[3], Sigs: sigs(0, i, 40)})
	}
	f, d := made(t, l...)
	ok(t, d.Realise(api.Realised{Drv: all[0], Out: "out", Path: all[1]}))
	var spans []span
	spans = append(spans, spansOf(all)...)
	for range 2 {
		for _, p := range all {
			x, e := d.Get(p)
			ok(t, e)
			spans = append(spans, spansOfInfo(x)...)
			spans = append(spans, spansOf(d.Referrers(p))...)
		}
		for _, call := range []func([]api.Path) ([]api.Path, api.Errno){d.Closure, d.Order} {
			got, e := call(all)
			ok(t, e)
			spans = append(spans, spansOf(got)...)
		}
		spans = append(spans, spansOf(d.All())...)
		p, e := d.Realised(all[0], "out")
		ok(t, e)
		spans = append(spans, spanOfText(p))
	}
	if meet(spans) {
		t.Error("answers share memory")
	}
	ok(t, d.Commit())
	tells(t, opened(t, f), told(t, d, output{all[0], "out"}))
}

// P11.8, W6, W7: what becomes of an answer is not seen in the DB, nor what becomes of the DB in an answer.
func TestAnswersStay(t *testing.T) {
	all := some(5)
	var l []api.Info
	for i, p := range all {
		l = append(l, api.Info{Path: p, Refs: all[:i], Sigs: sigs(0, i, 40)})
	}
	_, d := made(t, l...)
	want := told(t, d)
	x, e := d.Get(all[4])
	ok(t, e)
	kept, users := d.All(), d.Referrers(all[0])
	ends(t, d)
	if !same(x, want.infos[all[4]]) || !slices.Equal(kept, all) || !slices.Equal(users, all[1:]) {
		t.Errorf("what was answered is %v, %v, %v", x, kept, users)
	}
	d.Drop()
	spoil := func(l []api.Path) {
		for i := range l[:cap(l)] {
			l[:cap(l)][i] = "spoilt"
		}
	}
	for _, p := range all {
		x, _ := d.Get(p)
		spoil(x.Refs)
		for i := range x.Sigs {
			x.Sigs[i] = "spoilt"
		}
		spoil(d.Referrers(p))
		c, _ := d.Closure(all)
		spoil(c)
		o, _ := d.Order(all)
		spoil(o)
	}
	spoil(d.All())
	tells(t, d, want)
}

// noDB asks what a nil DB answers.
func noDB(t *testing.T, d *db.DB) {
	t.Helper()
	a := named("a")
	for _, l := range [][]api.Info{nil, {one(a)}, {one("bad")}, {one(a, named("none"))}, {{Path: a, Size: -1}}} {
		answers(t, d.Register(l), api.ErrArg)
	}
	for _, p := range []api.Path{"", a, "bad"} {
		answers(t, d.Remove(p), api.ErrArg)
		answers(t, d.Realise(api.Realised{Drv: p, Out: "out", Path: a}), api.ErrArg)
		answers(t, d.Realise(api.Realised{Drv: a, Out: "", Path: p}), api.ErrArg)
		lacks(t, d, p)
		unrealised(t, d, p, "out")
		lists(t, d.Referrers(p))
		for _, call := range []func([]api.Path) ([]api.Path, api.Errno){d.Closure, d.Order} {
			l, e := call([]api.Path{p})
			answers(t, e, api.ErrNone)
			lists(t, l)
			for _, none := range [][]api.Path{nil, {}} {
				l, e = call(none)
				answers(t, e, api.OK)
				lists(t, l)
			}
		}
	}
	answers(t, d.Commit(), api.ErrArg)
	d.Drop()
	lists(t, d.All())
}

// P11.8: a nil DB; W1: one that Open did not make is likewise none.
func TestNil(t *testing.T) {
	noDB(t, nil)
	var d db.DB
	noDB(t, &d)
	noDB(t, &d)
}

// W8: two over copies of a FS share nothing, nor do two over one.
func TestCopies(t *testing.T) {
	a := named("a")
	f, _ := made(t, one(a))
	both := []*fs.FS{f, f.Copy()}
	for i, g := range both {
		d, lost := opened(t, g), opened(t, g)
		x := api.Info{Path: named("x"), Refs: []api.Path{a}, Size: i}
		ok(t, d.Register([]api.Info{x}))
		ok(t, lost.Register([]api.Info{{Path: x.Path, Size: 99}}))
		ok(t, d.Commit())
		has(t, d, x)
	}
	for i, g := range both {
		has(t, opened(t, g), api.Info{Path: named("x"), Refs: []api.Path{a}, Size: i})
	}
}

// W9: others Crash the FS meanwhile, and ask, Sync and Fuse it: nothing panics, whatever is answered.
func TestCrashedMeanwhile(t *testing.T) {
	first := named("first")
	f, _ := made(t, one(first))
	var all sync.WaitGroup
	var ended atomic.Bool
	often := rounds(300)
	all.Go(func() {
		defer ended.Store(true)
		// A burnt fuse lets none be opened, till the next Crash.
		for tries, i := 0, 0; i < often && tries < often*1000; tries++ {
			d, e := db.Open(f, "db")
			if e != api.OK {
				continue
			}
			i++
			for n := range 10 {
				p := named(fmt.Sprint("p-", i*n%30))
				d.Register([]api.Info{{Path: p, Refs: []api.Path{first}, Sigs: sigs(i, n, 20)}})
				d.Remove(named(fmt.Sprint("p-", n*n%30)))
				d.Realise(api.Realised{Drv: p, Out: "out", Path: first})
				d.Commit()
			}
			d.Order(d.All())
			d.Drop()
		}
	})
	all.Go(func() {
		for i := 0; !ended.Load(); i++ {
			f.Sync()
			f.Fuse(i%40 - 1)
			f.Crash(i % 4)
			f.Names("")
		}
	})
	all.Go(func() {
		for range often / 10 {
			c := f.Copy()
			c.Crash(1)
			db.Open(c, "db")
		}
	})
	all.Wait()
	f.Crash(0)
	if d, e := db.Open(f, "db"); e == api.OK {
		exercised(d, []api.Path{first})
	}
}

// numbered is what the Commit n leaves: a path that is always there, and one of its own that refers to it.
func numbered(n int64) []api.Info {
	stays := named("stays")
	return []api.Info{one(stays), {Path: named(fmt.Sprint("p-", n)), Size: int(n), Refs: []api.Path{stays}, Sigs: sigs(int(n), 2, 20)}}
}

// commits changes a DB from what one Commit left to what the next one does.
func commits(t *testing.T, d *db.DB, n int64) api.Errno {
	t.Helper()
	ok(t, d.Register(numbered(n)))
	if n > 0 {
		ok(t, d.Remove(numbered(n - 1)[1].Path))
	}
	ok(t, d.Realise(api.Realised{Drv: numbered(n)[1].Path, Out: "out", Path: named("stays")}))
	return d.Commit()
}

// between asks for what a Commit left, the least and the most it may have been.
func between(t *testing.T, f *fs.FS, least, most int64) int64 {
	t.Helper()
	d, e := db.Open(f, "db")
	if e != api.OK {
		t.Errorf("Open: %v", e)
		return least
	}
	var n int64
	for _, p := range d.All() {
		x, _ := d.Get(p)
		n = max(n, int64(x.Size))
	}
	stays, own := numbered(n)[0], numbered(n)[1]
	x, e := d.Get(stays.Path)
	y, e2 := d.Get(own.Path)
	p, e3 := d.Realised(own.Path, "out")
	if n < least || n > most || !same(x, stays) || !same(y, own) || p != stays.Path || e != api.OK || e2 != api.OK || e3 != api.OK || len(d.All()) != 2 {
		t.Errorf("%v, not %d to %d", d.All(), least, most)
	}
	return n
}

// W9, P11.7: others ask, Sync and Fuse the FS meanwhile, and Crash copies of it, but not the FS itself: there is what
// the last Commit left that answered OK, or the one that erred.
func TestOthersMeanwhile(t *testing.T) {
	f := disk(t, 1<<24)
	ok(t, commits(t, opened(t, f), 0))
	var tried, done atomic.Int64
	for i := range rounds(100) {
		var all sync.WaitGroup
		all.Go(func() {
			for n := range 10 {
				f.Sync()
				f.Names("")
				least := done.Load()
				c := f.Copy()
				most := tried.Load()
				c.Crash(n % 4)
				between(t, c, least, most)
			}
			f.Fuse(i % 9)
		})
		d, e := db.Open(f, "db")
		for range 60 {
			if e != api.OK {
				break
			}
			n := tried.Add(1)
			if e = commits(t, d, n); e == api.OK {
				done.Store(n)
			}
		}
		all.Wait()
		if e != api.OK {
			answers(t, e, api.ErrDead)
		}
		f.Crash(i % 4)
		n := between(t, f, done.Load(), tried.Load())
		tried.Store(n)
		done.Store(n)
	}
}

// exercised calls all that there is, whatever it answers.
func exercised(d *db.DB, paths []api.Path) {
	all := append(d.All(), paths...)
	for i, p := range all {
		d.Get(p)
		d.Referrers(p)
		d.Closure(all[:i])
		d.Order([]api.Path{p})
		d.Realised(p, "out")
		d.Realise(api.Realised{Drv: p, Out: "out", Path: p})
		x, _ := d.Get(p)
		d.Register([]api.Info{{Path: p, Hash: x.Hash, Refs: all[:i], Sigs: sigs(i, 64, 9)}})
	}
	d.Closure(d.All())
	d.Order(d.All())
	d.Register([]api.Info{one(named("new"), paths...), one(named("other"), named("new"))})
	for _, p := range d.All() {
		d.Remove(p)
	}
	d.Commit()
	d.Drop()
}

// W1: keys of somebody else, and values that were changed, make nothing panic, and all ends.
func TestKeysOfOthers(t *testing.T) {
	paths := some(6)
	var l []api.Info
	for i, p := range paths {
		l = append(l, api.Info{Path: p, Refs: paths[:i+1], Sigs: sigs(0, i*3, 9)})
	}
	base, d := made(t, l...)
	ok(t, d.Realise(api.Realised{Drv: paths[0], Out: "out", Path: paths[1]}))
	ok(t, d.Commit())
	r := dice()
	for range rounds(400) {
		f := base.Copy()
		x, e := btree.Open(f, "db")
		ok(t, e)
		var keys []string
		for k := range x.Range("") {
			keys = append(keys, k)
		}
		for range 1 + r.IntN(9) {
			k := []byte(keys[r.IntN(len(keys))])
			value, e := x.Get(string(k))
			if e != api.OK {
				continue
			}
			switch r.IntN(5) {
			case 0:
				x.Delete(string(k))
				continue
			case 1:
				value = value[:r.IntN(len(value)+1)]
			case 2:
				value = append(value, byte(r.IntN(256)), byte(r.IntN(9)))
			case 3:
				k[r.IntN(len(k))] = byte(r.IntN(10))
			case 4:
				k = append(k[:1+r.IntN(len(k))], byte(r.IntN(256)))
			}
			if len(value) > 0 && r.IntN(2) == 0 {
				value[r.IntN(len(value))] = byte(r.IntN(9))
			}
			x.Put(string(k), value)
		}
		ok(t, x.Commit())
		exercised(opened(t, f), paths)
	}
}

// W1: a path whose places for signatures somebody else has taken, all of them.
func TestNoPlaceForSigs(t *testing.T) {
	a := named("a")
	f, _ := made(t, api.Info{Path: a, Sigs: []string{"s"}})
	x, e := btree.Open(f, "db")
	ok(t, e)
	var key string
	for k, value := range x.Range("") {
		if string(value) == "s" {
			key = k
		}
	}
	for i := range 256 {
		ok(t, x.Put(key[:len(key)-1]+string([]byte{byte(i)}), []byte(fmt.Sprint("t", i))))
	}
	// And one without a place.
	ok(t, x.Put(key[:len(key)-1], []byte("u")))
	ok(t, x.Commit())
	exercised(opened(t, f), []api.Path{a})
}

// W1: files of somebody else.
func TestFilesOfOthers(t *testing.T) {
	base, _ := made(t, one(named("a")), one(named("b"), named("a")))
	r := dice()
	for range rounds(300) {
		f := base.Copy()
		for _, name := range f.Names("") {
			b, _ := f.Read(name)
			for range r.IntN(4) {
				b[r.IntN(len(b))] = byte(r.IntN(256))
			}
			ok(t, f.Write(name, b[:len(b)-r.IntN(2)*r.IntN(len(b))]))
		}
		d, e := db.Open(f, "db")
		if e == api.OK {
			exercised(d, []api.Path{named("a"), named("b")})
		}
	}
}
