package store

import (
	"slices"
	"strings"

	"pantry/api"
	"pantry/nar"
	"pantry/tree"
)

const (
	skeletons = "t/" // and a path
	datas     = "s/" // and a path, and `/`, and a place
	maxPlace  = 180  // bytes of a File's place
)

// file is a File of a tree.
type file struct {
	place string
	data  []byte
}

// parcel is a tree as it lies in the file system.
type parcel struct {
	files    []file // by their places
	skeleton []byte
}

// skeletonName is where a path's skeleton is.
func skeletonName(p api.Path) string { return skeletons + string(p) }

// dataName is where the Data of a path's File at a place is.
func dataName(p api.Path, place string) string { return datas + string(p) + "/" + place }

// owner is the path whose file has such a name, if that path is valid.
func owner(name string) api.Path {
	if p, is := strings.CutPrefix(name, skeletons); is {
		return api.Path(p)
	}
	rest, _ := strings.CutPrefix(name, datas)
	p, _, is := strings.Cut(rest, "/")
	if !is {
		return ""
	}
	return api.Path(p)
}

// pack makes a tree a parcel.
func pack(t api.Tree) (parcel, api.Errno) {
	if e := tree.Check(t); e != api.OK {
		return parcel{}, e
	}
	var x parcel
	walk(&t, "", func(place string, f *api.Tree) { x.files = append(x.files, file{place, f.Data}) })
	slices.SortFunc(x.files, func(a, b file) int { return strings.Compare(a.place, b.place) })
	x.skeleton, _ = nar.Encode(bare(t))
	isLong := func(f file) bool { return len(f.place) > maxPlace }
	if len(x.skeleton) > api.MaxFile || slices.ContainsFunc(x.files, isLong) {
		return parcel{}, api.ErrLong
	}
	return x, api.OK
}

// bare is a tree in which no File has Data. It shares the rest with that one.
func bare(t api.Tree) api.Tree {
	if t.Kind == api.File {
		t.Data = nil
	}
	kids := make([]api.Tree, len(t.Kids))
	for i, kid := range t.Kids {
		kids[i] = bare(kid)
	}
	t.Kids = kids
	return t
}

// walk shows all Files of t, which stands at a place.
func walk(t *api.Tree, place string, show func(place string, f *api.Tree)) {
	if t.Kind == api.File {
		show(place, t)
	}
	for i, name := range t.Names {
		walk(&t.Kids[i], below(place, name), show)
	}
}

// below is the place of an entry of what stands at a place.
func below(place, name string) string {
	if place == "" {
		return name
	}
	return place + "/" + name
}

// kept is what is registered of a path, and its tree.
func (s *Store) kept(p api.Path) (api.Info, api.Tree, api.Errno) {
	x, e := s.DB().Get(p)
	if e != api.OK {
		return api.Info{}, api.Tree{}, api.ErrNone
	}
	t, whole := s.skeleton(p)
	walk(&t, "", func(place string, f *api.Tree) {
		b, e := s.fs.Read(dataName(p, place))
		whole = whole && e == api.OK
		f.Data = b
	})
	if !whole {
		return api.Info{}, api.Tree{}, api.ErrForm
	}
	return x, t, api.OK
}

// skeleton is that of a path's tree, if it is there and is one.
func (s *Store) skeleton(p api.Path) (api.Tree, bool) {
	// Where there is no file, there are no bytes, and these are no tree's.
	b, _ := s.fs.Read(skeletonName(p))
	t, e := nar.Decode(b)
	is := e == api.OK
	walk(&t, "", func(_ string, f *api.Tree) { is = is && len(f.Data) == 0 })
	if !is {
		return api.Tree{}, false
	}
	return t, true
}
