package db_test

import (
	"fmt"
	"slices"
	"testing"

	"pantry/api"
	"pantry/db"
	"pantry/fs"
)

// change is a Commit that is tried with a fuse at each place, and each crash behind it.
type change struct {
	name  string
	base  *fs.FS // it is copied, and stays
	do    func(t *testing.T, d *db.DB)
	heavy bool // it is tried at some places only, if it is to be short
}

// grows registers some paths that refer to all that are there, and to one another, with Sigs for those.
func grows(t *testing.T, d *db.DB) {
	t.Helper()
	old := d.All()
	var l []api.Info
	for _, p := range old {
		x, e := d.Get(p)
		ok(t, e)
		l = append(l, api.Info{Path: p, Hash: x.Hash, Sigs: sigs(50, 40, 9)})
	}
	a, b, c := named("grows-a"), named("grows-b"), named("grows-c")
	l = append(l, api.Info{Path: a, Hash: hash(1), Refs: append(old, b, a)}, one(b, old...), api.Info{Path: c, Size: 3, Deriver: a, Sigs: sigs(0, 64, 100)})
	ok(t, d.Register(l))
	ok(t, d.Realise(api.Realised{Drv: c, Out: "out", Path: a}))
	ok(t, d.Realise(api.Realised{Drv: c, Out: "dev", Path: b}))
}

// lots registers more than goes into a journal at once.
func lots(t *testing.T, d *db.DB) {
	t.Helper()
	for i := range 9 {
		ok(t, d.Register([]api.Info{{Path: named(fmt.Sprint("lots-", i)), Refs: d.All(), Sigs: sigs(i, 64, 1000)}}))
	}
}

// shrinks removes every path that may go, once.
func shrinks(t *testing.T, d *db.DB) {
	t.Helper()
	for _, p := range d.All() {
		if len(d.Referrers(p)) == 0 {
			ok(t, d.Remove(p))
		}
	}
}

// ends removes all.
func ends(t *testing.T, d *db.DB) {
	t.Helper()
	l, e := d.Order(d.All())
	ok(t, e)
	for _, p := range slices.Backward(l) {
		ok(t, d.Remove(p))
	}
}

// changes is what is tried.
func changes(t *testing.T) []change {
	t.Helper()
	empty := disk(t, 1<<24)
	all := some(12)
	var l []api.Info
	for i, p := range all {
		l = append(l, api.Info{Path: p, Hash: hash(i), Refs: all[:i], Sigs: sigs(i, i*2, 9)})
	}
	few, _ := made(t, l...)
	wide, d := made(t, l...)
	lots(t, d)
	ok(t, d.Commit())
	return []change{
		{"the first ones", empty, grows, false},
		{"more", few, grows, false},
		{"one less", few, shrinks, false},
		{"none any more", few, ends, false},
		{"lots first", empty, lots, true},
		{"lots behind some", few, lots, true},
		{"more behind lots", wide, grows, true},
		{"one less of lots", wide, shrinks, true},
		{"none any more of lots", wide, ends, true},
	}
}

// asked is the outputs that the changes tell.
func asked() []output {
	return []output{{named("grows-c"), "out"}, {named("grows-c"), "dev"}, {named("goes-on"), "out"}}
}

// P11.6, P11.7: a fuse that burns at each place of a Commit, and each crash behind it.
func TestFuseAtEachPlace(t *testing.T) {
	for _, c := range changes(t) {
		t.Run(c.name, func(t *testing.T) {
			step := 1
			if c.heavy && testing.Short() {
				step = 9
			}
			before := told(t, opened(t, c.base.Copy()), asked()...)
			for fuse := 0; ; fuse += step {
				f := c.base.Copy()
				d := opened(t, f)
				c.do(t, d)
				after := told(t, d, asked()...)
				f.Fuse(fuse)
				e := d.Commit()
				if e == api.OK {
					lasts(t, f, after)
					if fuse == 0 {
						t.Error("nothing is done")
					}
					return
				}
				answers(t, e, api.ErrDead)
				dead(t, d, after)
				d.Drop()
				dead(t, d, before)
				behindCrashes(t, f, before, after, c.heavy)
			}
		})
	}
}

// dead asks that a DB changes nothing any more, and goes on telling what it has. Its own errors come first.
func dead(t *testing.T, d *db.DB, want model) {
	t.Helper()
	x := named("dead")
	answers(t, d.Commit(), api.ErrDead)
	answers(t, d.Register([]api.Info{one(x)}), api.ErrDead)
	answers(t, d.Register(nil), api.ErrDead)
	answers(t, d.Realise(api.Realised{Drv: x, Out: "out", Path: x}), api.ErrDead)
	answers(t, d.Remove(x), api.ErrNone)
	answers(t, d.Register([]api.Info{one("bad")}), api.ErrForm)
	answers(t, d.Register([]api.Info{{Path: x, Size: -1}}), api.ErrArg)
	answers(t, d.Register([]api.Info{{Path: x, Sigs: make([]string, 65)}}), api.ErrLong)
	answers(t, d.Register([]api.Info{one(x, named("none"))}), api.ErrRef)
	answers(t, d.Register([]api.Info{one(x, named("y")), one(named("y"), x)}), api.ErrLoop)
	answers(t, d.Realise(api.Realised{Drv: x, Out: "out", Path: "bad"}), api.ErrForm)
	answers(t, d.Realise(api.Realised{Drv: x, Out: "", Path: x}), api.ErrName)
	for o, p := range want.told {
		answers(t, d.Realise(api.Realised{Drv: o.drv, Out: o.out, Path: p}), api.ErrDead)
		answers(t, d.Realise(api.Realised{Drv: o.drv, Out: o.out, Path: x}), api.ErrHas)
	}
	for _, p := range want.all()[:min(5, len(want.infos))] {
		e := api.ErrDead
		if len(slices.DeleteFunc(want.referrers(p), func(q api.Path) bool { return q == p })) > 0 {
			e = api.ErrUsed
		}
		answers(t, d.Remove(p), e)
		answers(t, d.Register([]api.Info{want.infos[p]}), api.ErrDead)
		answers(t, d.Register([]api.Info{{Path: p, Hash: hash(999)}}), api.ErrHas)
	}
	tells(t, d, want)
	closes(t, d, want.all(), want.all()...)
	orders(t, d, want.all(), want.order(want.all())...)
}

// behindCrashes asks for all of a change or nothing behind each crash, and whether all works from there on.
func behindCrashes(t *testing.T, f *fs.FS, before, after model, heavy bool) {
	t.Helper()
	for _, keep := range append(keeps(f, 9), -1) {
		g := f.Copy()
		if keep >= 0 {
			g.Crash(keep)
		}
		d := opened(t, g)
		got := told(t, d, asked()...)
		if !got.same(after) && !got.same(before) {
			t.Fatalf("behind Crash(%d) it tells %.300v", keep, got)
		}
		if heavy && keep > 1 {
			continue
		}
		x := api.Info{Path: named("goes-on"), Refs: got.all()}
		ok(t, d.Register([]api.Info{x}))
		ok(t, got.register([]api.Info{x}))
		ok(t, d.Commit())
		r := api.Realised{Drv: x.Path, Out: "out", Path: x.Path}
		ok(t, d.Realise(r))
		ok(t, got.realise(r))
		ok(t, d.Commit())
		tells(t, d, got)
		lasts(t, g, got)
	}
}

// tale is a DB that is used at random, and what is known of it.
type tale struct {
	f     *fs.FS
	d     *db.DB
	now   model
	last  model
	dead  bool
	maybe model // what is there too, if the last Commit erred
	full  bool  // the FS may have no room
	paths []api.Path
}

const taleRoom = 1 << 21

// step is a call at random, with what it is to answer.
func (s *tale) step(t *testing.T, pick func(int) int) {
	t.Helper()
	p := s.paths[pick(len(s.paths))]
	switch kind := pick(100); {
	case kind < 40:
		s.registers(t, pick)
	case kind < 60:
		next := s.now.clone()
		s.answers(t, s.d.Remove(p), next.remove(p), next)
	case kind < 70:
		next := s.now.clone()
		r := api.Realised{Drv: p, Out: []string{"out", "dev", "."}[pick(8)/3], Path: s.paths[pick(3)]}
		s.answers(t, s.d.Realise(r), next.realise(r), next)
	case kind < 82:
		s.commits(t)
	case kind < 86:
		s.d.Drop()
		s.now = s.last
	case kind < 89:
		s.f.Fuse(pick(8))
	case kind < 92:
		s.fills(pick(1 << 16))
	default:
		s.again(t, pick(60))
	}
}

// answers asks for what a change is to answer, and for the state behind it.
func (s *tale) answers(t *testing.T, got, want api.Errno, next model) {
	t.Helper()
	if want == api.OK && s.dead {
		answers(t, got, api.ErrDead)
		return
	}
	answers(t, got, want)
	if want == api.OK {
		s.now = next
	}
}

func (s *tale) registers(t *testing.T, pick func(int) int) {
	t.Helper()
	var l []api.Info
	for range 1 + pick(3) {
		x := anyInfo(pick, s.paths)
		if pick(3) > 0 {
			x.Refs = s.now.all()[:pick(1+len(s.now.infos))]
		}
		if pick(9) == 0 {
			x.Sigs = sigs(pick(90), pick(65), 1000)
		}
		l = append(l, x)
	}
	next := s.now.clone()
	s.answers(t, s.d.Register(l), next.register(l), next)
}

func (s *tale) commits(t *testing.T) {
	t.Helper()
	e := s.d.Commit()
	switch {
	case s.dead:
		answers(t, e, api.ErrDead)
	case e == api.OK:
		s.last = s.now
	case e == api.ErrFull:
		if !s.full {
			t.Error("there is room")
		}
	default:
		answers(t, e, api.ErrDead)
		s.dead, s.maybe = true, s.now
	}
}

// fills takes the room of the FS, or gives it back.
func (s *tale) fills(size int) {
	for _, name := range s.f.Names("filler") {
		s.f.Remove(name)
	}
	for i := 0; size%2 == 0 && s.f.Used()+size < taleRoom && i < 20; i++ {
		s.f.Write(fmt.Sprint("filler", i), make([]byte, min(taleRoom-s.f.Used()-size, api.MaxFile)))
	}
	// With a burnt fuse some may have stayed.
	s.full = len(s.f.Names("filler")) > 0
}

// again opens the DB anew, behind a crash or without one.
func (s *tale) again(t *testing.T, keep int) {
	t.Helper()
	if keep%3 == 0 {
		s.f.Fuse(-1)
	} else {
		s.f.Crash(keep)
	}
	s.d = opened(t, s.f)
	var asked []output
	for _, p := range s.paths {
		asked = append(asked, output{p, "out"}, output{p, "dev"})
	}
	got := told(t, s.d, asked...)
	if !got.same(s.last) && !(s.dead && got.same(s.maybe)) {
		t.Errorf("it tells %.300v, want %.300v or %.300v", got, s.last, s.maybe)
	}
	s.now, s.last, s.dead = got, got, false
	s.full = len(s.f.Names("filler")) > 0
}

// P11.2 to P11.7, at random.
func TestTales(t *testing.T) {
	r := dice()
	for i := range rounds(40) {
		s := &tale{f: disk(t, taleRoom), now: nothing(), last: nothing(), paths: append(some(20), long(1), long(2), alike("a"))}
		s.d = opened(t, s.f)
		for n := range 300 {
			s.step(t, r.IntN)
			if n%5 == 0 {
				tells(t, s.d, s.now)
			}
			if n%20 == 0 {
				orders(t, s.d, s.now.all(), s.now.order(s.now.all())...)
			}
			if t.Failed() {
				t.Fatalf("tale %d, step %d", i, n)
			}
		}
	}
}
