package store

import (
	"slices"
	"strings"
	"sync"

	"pantry/api"
	"pantry/digest"
	"pantry/nar"
	"pantry/path"
)

const (
	maxSigs = 64   // of a path, as chapter 11 has it
	maxSig  = 1000 // bytes of one
)

// sum is the digest of a tree's bytes, and how many they are.
type sum struct {
	once sync.Once
	hash api.Hash
	size int
}

// AddTree adds a tree; its path.
func (s *Store) AddTree(t api.Tree, name string, refs []api.Path) (api.Path, api.Errno) {
	if e := s.refusal(); e != api.OK {
		return "", e
	}
	x, e := pack(t)
	if e != api.OK {
		return "", e
	}
	h, n, _ := nar.Hash(t)
	p, e := path.Source(h, refs, name)
	if e != api.OK {
		return "", e
	}
	return s.addNamed(p, refs, x, func() (api.Hash, int) { return h, n })
}

// AddText adds a text; its path.
func (s *Store) AddText(text []byte, name string, refs []api.Path) (api.Path, api.Errno) {
	if e := s.refusal(); e != api.OK {
		return "", e
	}
	t := api.Tree{Kind: api.File, Data: text}
	x, e := pack(t)
	if e != api.OK {
		return "", e
	}
	p, e := path.Text(digest.Sum(text), refs, name)
	if e != api.OK {
		return "", e
	}
	return s.addNamed(p, refs, x, func() (api.Hash, int) { return s.sumOf(p, t) })
}

// Add adds trees under paths that were told, together.
func (s *Store) Add(l []api.Info, trees []api.Tree) api.Errno {
	if e := s.refusal(); e != api.OK {
		return e
	}
	if len(l) != len(trees) {
		return api.ErrArg
	}
	parcels := make([]parcel, len(trees))
	for i, t := range trees {
		x, e := pack(t)
		if e != api.OK {
			return e
		}
		parcels[i] = x
	}
	for i, t := range trees {
		if !isOf(l[i], t) {
			return api.ErrHash
		}
	}
	return s.add(l, parcels)
}

// addNamed adds a parcel, whose sum is reckoned where it is asked for, under the path that is its name, if that is not
// valid; the path.
func (s *Store) addNamed(p api.Path, refs []api.Path, x parcel, reckon func() (api.Hash, int)) (api.Path, api.Errno) {
	for _, ref := range refs {
		if !s.valid(ref) {
			return "", api.ErrRef
		}
	}
	if s.valid(p) {
		return p, api.OK
	}
	h, n := reckon()
	if e := s.add([]api.Info{{Path: p, Hash: h, Size: n, Refs: refs}}, []parcel{x}); e != api.OK {
		return "", e
	}
	return p, api.OK
}

// sumOf is the sum of the tree that a path is the name of. It is reckoned once: such a path never has another tree.
func (s *Store) sumOf(p api.Path, t api.Tree) (api.Hash, int) {
	x := s.sums[p]
	if x == nil {
		x = &sum{}
		s.sums[api.Path(strings.Clone(string(p)))] = x
	}
	x.once.Do(func() { x.hash, x.size, _ = nar.Hash(t) })
	return x.hash, x.size
}

// add adds parcels, together, but for those whose paths are valid.
func (s *Store) add(l []api.Info, parcels []parcel) api.Errno {
	l = slices.Clone(l)
	var fresh []int
	for i, x := range l {
		if !s.valid(x.Path) {
			fresh = append(fresh, i)
		} else if !hasMuch(x.Sigs) {
			// With these more would be registered of a valid path.
			l[i].Sigs = nil
		}
	}
	// What is refused is refused now; and till it is Committed, it does not last.
	if e := s.db.Register(l); e != api.OK {
		return s.met(e)
	}
	for _, i := range fresh {
		if e := s.write(l[i].Path, parcels[i]); e != api.OK {
			return s.dropped(e)
		}
	}
	if e := s.fs.Sync(); e != api.OK {
		return s.dropped(e)
	}
	if e := s.db.Commit(); e != api.OK {
		return s.dropped(e)
	}
	return api.OK
}

// hasMuch tells whether Register refuses signatures.
func hasMuch(sigs []string) bool {
	return len(sigs) > maxSigs || slices.ContainsFunc(sigs, func(sig string) bool { return len(sig) > maxSig })
}

// dropped is an error behind which what does not last is registered no more.
func (s *Store) dropped(e api.Errno) api.Errno {
	s.db.Drop()
	return s.met(e)
}

// write lays a parcel down, its skeleton last.
func (s *Store) write(p api.Path, x parcel) api.Errno {
	for _, f := range x.files {
		if e := s.put(dataName(p, f.place), f.data); e != api.OK {
			return e
		}
	}
	return s.put(skeletonName(p), x.skeleton)
}

// put writes a file, and counts it.
func (s *Store) put(name string, b []byte) api.Errno {
	e := s.fs.Write(name, b)
	if e == api.OK {
		s.written.Add(1)
	}
	return e
}
