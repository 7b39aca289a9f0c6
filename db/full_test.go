package db_test

import (
	"fmt"
	"testing"

	"pantry/api"
	"pantry/db"
	"pantry/fs"
)

// stuffed is a DB that has nearly all pages of its tree taken, and what it has.
func stuffed(t *testing.T) (*fs.FS, *db.DB, model) {
	t.Helper()
	f, d := made(t)
	m := nothing()
	for n := 0; ; n++ {
		l := []api.Info{{Path: named(fmt.Sprint("stuff-", n)), Refs: d.All()[:n/2], Sigs: sigs(100, maxSigs, maxSig)}}
		if e := d.Register(l); e != api.OK {
			answers(t, e, api.ErrFull)
			break
		}
		ok(t, m.register(l))
	}
	return f, d, m
}

// P11.2: ErrFull, and nothing is changed then: of what lasts, and of what does not.
func TestNoPage(t *testing.T) {
	f, d, m := stuffed(t)
	x, y := named("x"), named("y")
	whole := api.Info{Path: y, Sigs: sigs(0, maxSigs, maxSig)}
	refused := func() {
		t.Helper()
		answers(t, d.Register([]api.Info{whole}), api.ErrFull)
		answers(t, d.Register([]api.Info{one(x, m.all()...), {Path: m.all()[0], Sigs: []string{"new"}}, whole}), api.ErrFull)
		answers(t, d.Register([]api.Info{one(x, y, x), whole}), api.ErrFull)
		// What is behind it would have room.
		answers(t, d.Register([]api.Info{whole, {Path: x, Sigs: []string{"s"}}}), api.ErrFull)
		lacks(t, d, x)
		lacks(t, d, y)
	}
	refused()
	tells(t, d, m)
	ok(t, d.Commit())
	stays(t, f, d, refused)
	tells(t, d, m)
	lasts(t, f, m)
	// What changes nothing needs no page.
	ok(t, d.Register([]api.Info{m.infos[m.all()[3]]}))
	stays(t, f, d, refused)
	d = opened(t, f)
	stays(t, f, d, refused)
	ok(t, d.Register([]api.Info{one(x)}))
	d.Drop()
	stays(t, f, d, refused)
	// What is not committed stays, too.
	ok(t, d.Register([]api.Info{one(x)}))
	ok(t, m.register([]api.Info{one(x)}))
	answers(t, d.Register([]api.Info{one(y, x), {Path: x, Sigs: sigs(0, maxSigs, maxSig)}}), api.ErrFull)
	tells(t, d, m)
	ok(t, d.Remove(x))
	ok(t, m.remove(x))
	answers(t, d.Register([]api.Info{one(x), one(y, x), {Path: m.all()[0], Sigs: sigs(0, maxSigs, maxSig)}}), api.ErrFull)
	tells(t, d, m)
}

// P11.2: what is refused takes nothing of a change ahead of it that does not last, be it as small as may be.
func TestNoPageBehindChanges(t *testing.T) {
	f, d, m := stuffed(t)
	ok(t, d.Commit())
	x, y := named("x"), named("y")
	r := api.Realised{Drv: x, Out: "out", Path: y}
	refused := func() {
		t.Helper()
		answers(t, d.Register([]api.Info{{Path: y, Sigs: sigs(0, maxSigs, maxSig)}}), api.ErrFull)
	}
	last := m.order(m.all())[len(m.infos)-1]
	more := []api.Info{{Path: last, Sigs: []string{"0"}}}
	for _, change := range []struct {
		do   func() api.Errno
		want func(m model) api.Errno
	}{
		{func() api.Errno { return d.Realise(r) }, func(m model) api.Errno { return m.realise(r) }},
		{func() api.Errno { return d.Register([]api.Info{one(x)}) }, func(m model) api.Errno { return m.register([]api.Info{one(x)}) }},
		{func() api.Errno { return d.Register(more) }, func(m model) api.Errno { return m.register(more) }},
	} {
		now := m.clone()
		ok(t, change.do())
		ok(t, change.want(now))
		refused()
		tells(t, d, now)
		d.Drop()
		tells(t, d, m)
	}
	// What is told already is no change.
	ok(t, d.Realise(r))
	ok(t, d.Commit())
	ok(t, d.Realise(r))
	stays(t, f, d, refused)
}

// P11.3: a Remove needs no page, and makes room.
func TestRemoveWithoutPage(t *testing.T) {
	f, d, m := stuffed(t)
	order, e := d.Order(d.All())
	ok(t, e)
	last := order[len(order)-1]
	ok(t, d.Remove(last))
	ok(t, m.remove(last))
	tells(t, d, m)
	l := []api.Info{{Path: named("x"), Sigs: sigs(0, 60, maxSig)}}
	ok(t, d.Register(l))
	ok(t, m.register(l))
	tells(t, d, m)
	ok(t, d.Commit())
	lasts(t, f, m)
	d.Drop()
	ends(t, d)
	tells(t, d, nothing())
}

// P11.5: a Realise without a page is refused, and changes nothing.
func TestRealiseWithoutPage(t *testing.T) {
	for _, commit := range []bool{false, true} {
		f, d, m := stuffed(t)
		if commit {
			ok(t, d.Commit())
		}
		// Shorter ones fill what the stuff left; those that are refused are told with the next path.
		n := 0
		for ; ; n++ {
			r := api.Realised{Drv: long(n), Out: "out", Path: long(n)}
			if e := d.Realise(r); e != api.OK {
				answers(t, e, api.ErrFull)
				break
			}
			ok(t, m.realise(r))
			if commit {
				ok(t, d.Commit())
			}
		}
		unrealised(t, d, long(n), "out")
		tells(t, d, m)
		if commit {
			stays(t, f, d, func() { answers(t, d.Realise(api.Realised{Drv: long(n), Out: "out", Path: long(n)}), api.ErrFull) })
		}
		// What is told already needs no page.
		if n > 0 {
			ok(t, d.Realise(api.Realised{Drv: long(0), Out: "out", Path: long(0)}))
			answers(t, d.Realise(api.Realised{Drv: long(0), Out: "out", Path: long(1)}), api.ErrHas)
		}
		ok(t, d.Commit())
		lasts(t, f, m)
	}
}

// leave lets a FS have so many bytes left, by files that take all others.
func leave(t *testing.T, f *fs.FS, room, left int) {
	t.Helper()
	for _, name := range f.Names("filler") {
		ok(t, f.Remove(name))
	}
	for f.Used()+left < room {
		size := min(room-f.Used()-left, api.MaxFile)
		ok(t, f.Write(fmt.Sprint("filler", f.Used()), make([]byte, size)))
	}
	ok(t, f.Sync())
}

// P11.6: a FS without room: what was changed is changed, does not last, and lasts by a Commit that has room.
func TestNoRoom(t *testing.T) {
	const room = 1 << 20
	for _, drop := range []bool{false, true} {
		f := disk(t, room)
		d := opened(t, f)
		grows(t, d)
		ok(t, d.Commit())
		before := told(t, d, asked()...)
		leave(t, f, room, 0)
		x, y := named("x"), named("y")
		now := before.clone()
		l := []api.Info{{Path: x, Refs: before.all(), Sigs: sigs(0, 30, 300)}}
		ok(t, d.Register(l))
		ok(t, now.register(l))
		for range 3 {
			answers(t, d.Commit(), api.ErrFull)
			tells(t, d, now)
			lasts(t, f, before)
		}
		// It is not dead.
		ok(t, d.Register([]api.Info{one(y, x)}))
		ok(t, d.Remove(y))
		ok(t, d.Realise(api.Realised{Drv: y, Out: "out", Path: x}))
		now.told[output{y, "out"}] = x
		answers(t, d.Commit(), api.ErrFull)
		tells(t, d, now)
		if drop {
			d.Drop()
			tells(t, d, before)
			unrealised(t, d, y, "out")
			now = before.clone()
			ok(t, d.Remove(named("grows-c")))
			ok(t, now.remove(named("grows-c")))
		}
		leave(t, f, room, room/2)
		ok(t, d.Commit())
		tells(t, d, now)
		lasts(t, f, now)
	}
}

// P11.6: behind a Commit without room, what is refused for want of a page leaves what does not last.
func TestNoRoomAndNoPage(t *testing.T) {
	const room = 1 << 26
	f, d, m := stuffed(t)
	leave(t, f, room, 0)
	answers(t, d.Commit(), api.ErrFull)
	answers(t, d.Register([]api.Info{{Path: named("x"), Sigs: sigs(0, maxSigs, maxSig)}}), api.ErrFull)
	tells(t, d, m)
	leave(t, f, room, room/2)
	ok(t, d.Commit())
	lasts(t, f, m)
}
