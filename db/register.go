package db

import (
	"pantry/api"
	"pantry/path"
)

const maxSig = 1000 // bytes of a signature

// Colours of the search for rings; a path that was not met has none.
const (
	grey  = 1 + iota // it is on the way
	black            // no ring goes through it
)

// step is a path on the way of that search, and those of what it refers to where the search did not go yet.
type step struct {
	path api.Path
	left []api.Path
}

// Register makes paths valid, together.
func (d *DB) Register(l []api.Info) api.Errno {
	if d.isNone() {
		return api.ErrArg
	}
	if e := formError(l); e != api.OK {
		return e
	}
	if d.clash(l) {
		return api.ErrHas
	}
	fresh := d.fresh(l)
	refs := refsOf(fresh)
	if d.lack(refs) {
		return api.ErrRef
	}
	if haveRing(fresh, refs) {
		return api.ErrLoop
	}
	if d.dead {
		return api.ErrDead
	}
	c := &change{DB: d}
	c.add(fresh)
	for _, x := range l {
		r, _ := c.record(x.Path)
		c.sign(r.number, x.Sigs)
	}
	return c.end()
}

// formError is the first error that Infos have, whatever is registered.
func formError(l []api.Info) api.Errno {
	ahead := map[api.Path]int{}
	for _, x := range l {
		ahead[x.Path]++
		switch {
		case !allPaths(x):
			return api.ErrForm
		case x.Size < 0 || ahead[x.Path] > 1:
			return api.ErrArg
		case isLong(x):
			return api.ErrLong
		}
	}
	return api.OK
}

// allPaths tells whether what is to be a path in an Info is one.
func allPaths(x api.Info) bool {
	for _, ref := range x.Refs {
		if !isPath(ref) {
			return false
		}
	}
	return isPath(x.Path) && (x.Deriver == "" || isPath(x.Deriver))
}

// isPath tells whether a text is a path.
func isPath(p api.Path) bool {
	_, _, e := path.Split(p)
	return e == api.OK
}

// isLong tells whether an Info has too much.
func isLong(x api.Info) bool {
	for _, s := range x.Sigs {
		if len(s) > maxSig {
			return true
		}
	}
	return len(x.Refs) > api.MaxRefs || len(x.Sigs) > maxSigs
}

// clash tells whether one is valid with another Hash.
func (d *DB) clash(l []api.Info) bool {
	for _, x := range l {
		if r, valid := d.record(x.Path); valid && r.hash != x.Hash {
			return true
		}
	}
	return false
}

// fresh is those that are not valid.
func (d *DB) fresh(l []api.Info) []api.Info {
	var fresh []api.Info
	for _, x := range l {
		if _, valid := d.record(x.Path); !valid {
			fresh = append(fresh, x)
		}
	}
	return fresh
}

// refsOf is what each of some paths refers to.
func refsOf(l []api.Info) map[api.Path][]api.Path {
	refs := make(map[api.Path][]api.Path, len(l))
	for _, x := range l {
		refs[x.Path] = x.Refs
	}
	return refs
}

// lack tells whether new paths refer to one that is neither valid nor one of them.
func (d *DB) lack(refs map[api.Path][]api.Path) bool {
	for _, l := range refs {
		for _, ref := range l {
			if _, is := refs[ref]; is {
				continue
			}
			if _, valid := d.record(ref); !valid {
				return true
			}
		}
	}
	return false
}

// haveRing tells whether new paths refer to one another in a ring of two or more. What is valid refers to none of
// them, so no ring goes through that.
func haveRing(fresh []api.Info, refs map[api.Path][]api.Path) bool {
	colours := map[api.Path]int{}
	for _, x := range fresh {
		if colours[x.Path] == 0 && ringFrom(x.Path, refs, colours) {
			return true
		}
	}
	return false
}

// ringFrom tells whether there is a ring on the ways from a path on that do not go through black ones. It keeps the
// way itself, for that may be longer than calls may be nested.
func ringFrom(from api.Path, refs map[api.Path][]api.Path, colours map[api.Path]int) bool {
	way := []step{{from, refs[from]}}
	colours[from] = grey
	for len(way) > 0 {
		top := &way[len(way)-1]
		if len(top.left) == 0 {
			colours[top.path] = black
			way = way[:len(way)-1]
			continue
		}
		next := top.left[0]
		top.left = top.left[1:]
		left, fresh := refs[next]
		switch {
		case !fresh || next == top.path || colours[next] == black:
		case colours[next] == grey:
			return true
		default:
			colours[next] = grey
			way = append(way, step{next, left})
		}
	}
	return false
}
