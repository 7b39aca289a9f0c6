package store

import (
	"slices"

	"pantry/api"
	"pantry/digest"
	"pantry/tree"
)

// bridge is a name for what is to have another name, which may have a file.
const bridge = "o"

// Optimise lets files that are alike be one.
func (s *Store) Optimise() (int, api.Errno) {
	if e := s.refusal(); e != api.OK {
		return 0, e
	}
	n, e := s.join(s.dataNames())
	if e == api.OK {
		e = s.fs.Sync()
	}
	if e != api.OK {
		return 0, s.met(e)
	}
	return n, api.OK
}

// dataNames is where the Data of all Files of all valid paths is, rising.
func (s *Store) dataNames() []string {
	var names []string
	for _, p := range s.db.All() {
		t, _ := s.skeleton(p)
		for _, place := range tree.Files(t) {
			names = append(names, dataName(p, place))
		}
	}
	slices.Sort(names)
	return names
}

// join lets each name name the first file that has the same bytes; how many did not.
func (s *Store) join(names []string) (int, api.Errno) {
	n := 0
	firsts := map[api.Hash]int{} // the place in names of the first one with such bytes
	for i, name := range names {
		b, e := s.fs.Read(name)
		if e != api.OK {
			// Others took it away.
			continue
		}
		h := digest.Sum(b)
		first, has := firsts[h]
		switch {
		case !has:
			firsts[h] = i
		case s.isOne(names[first], name):
		default:
			if e := s.move(names[first], name); e != api.OK {
				return 0, e
			}
			n++
		}
	}
	return n, api.OK
}

// isOne tells whether two names name one file.
func (s *Store) isOne(a, b string) bool {
	least, n := s.fs.Node(b)
	if n < 2 {
		return false
	}
	other, _ := s.fs.Node(a)
	return least == other
}

// move lets a name name the file of another one. At any time it names a file with the same bytes.
func (s *Store) move(from, name string) api.Errno {
	if e := s.fs.Remove(bridge); e != api.OK && e != api.ErrNone {
		return e
	}
	if e := s.fs.Link(from, bridge); e != api.OK {
		return e
	}
	return s.fs.Rename(bridge, name)
}
