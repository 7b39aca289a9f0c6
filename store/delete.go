package store

import (
	"slices"

	"pantry/api"
)

// set is some paths.
type set map[api.Path]struct{}

// Delete takes valid paths away, together.
func (s *Store) Delete(l []api.Path) api.Errno {
	if e := s.refusal(); e != api.OK {
		return e
	}
	order, e := s.db.Order(l)
	if e != api.OK {
		return e
	}
	gone := setOf(order)
	if s.needed(gone) {
		return api.ErrUsed
	}
	// Their files go when they are valid no more, whatever crash comes.
	if e := s.unregister(order); e != api.OK {
		return s.dropped(e)
	}
	return s.met(s.remove(s.names(gone.has)))
}

// Stray is the names in the file system that belong to no valid path.
func (s *Store) Stray() []string {
	valid := setOf(s.DB().All())
	return s.names(func(p api.Path) bool { return !valid.has(p) })
}

// Clean takes these away.
func (s *Store) Clean() (int, api.Errno) {
	if e := s.refusal(); e != api.OK {
		return 0, e
	}
	names := s.Stray()
	if e := s.remove(names); e != api.OK {
		return 0, s.met(e)
	}
	return len(names), api.OK
}

// setOf is the paths of a list.
func setOf(l []api.Path) set {
	x := make(set, len(l))
	for _, p := range l {
		x[p] = struct{}{}
	}
	return x
}

// has tells whether a path is one of them.
func (x set) has(p api.Path) bool {
	_, is := x[p]
	return is
}

// needed tells whether a valid path refers to one of those that go, and does not go.
func (s *Store) needed(gone set) bool {
	for p := range gone {
		for _, user := range s.db.Referrers(p) {
			if !gone.has(user) {
				return true
			}
		}
	}
	return false
}

// unregister makes paths, of which each stands behind what it refers to, valid no more.
func (s *Store) unregister(order []api.Path) api.Errno {
	for _, p := range slices.Backward(order) {
		if e := s.db.Remove(p); e != api.OK {
			return e
		}
	}
	return s.db.Commit()
}

// names is the names in the file system, rising, whose owners are among those that are meant.
func (s *Store) names(meant func(api.Path) bool) []string {
	all := slices.Concat(s.FS().Names(datas), s.FS().Names(skeletons))
	return slices.DeleteFunc(all, func(name string) bool { return !meant(owner(name)) })
}

// remove takes names away.
func (s *Store) remove(names []string) api.Errno {
	for _, name := range names {
		if e := s.fs.Remove(name); e != api.OK {
			return e
		}
	}
	return s.fs.Sync()
}
