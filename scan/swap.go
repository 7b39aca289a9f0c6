package scan

import (
	"bytes"
	"iter"
	"slices"
	"strings"

	"pantry/api"
	"pantry/path"
)

// swap lays digits in the place of other ones, and counts how often it did.
type swap struct {
	from, to string
	times    int
}

// entry is a Dir's name with its Kid.
type entry struct {
	name string
	kid  api.Tree
}

func swapOf(from, to api.Path) (*swap, api.Errno) {
	old, _, e := path.Split(from)
	if e != api.OK {
		return nil, e
	}
	laid, _, e := path.Split(to)
	if e != api.OK {
		return nil, e
	}
	return &swap{from: old, to: laid}, api.OK
}

// inBytes is b with the digits laid, in memory of its own.
func (s *swap) inBytes(b []byte) []byte {
	out := append([]byte(nil), b...)
	for at := range places(b, s.from) {
		copy(out[at:], s.to)
		s.times++
	}
	return out
}

// inName is likewise; the clone, as Go has one text for all that are the same single byte.
func (s *swap) inName(name string) string {
	return strings.Clone(string(s.inBytes([]byte(name))))
}

// inNames is t with the digits laid in its names alone, and these in order anew: its Data is still that of t.
func (s *swap) inNames(t api.Tree) api.Tree {
	entries := make([]entry, len(t.Names))
	for i, name := range t.Names {
		entries[i] = entry{s.inName(name), s.inNames(t.Kids[i])}
	}
	slices.SortFunc(entries, func(a, b entry) int { return strings.Compare(a.name, b.name) })
	out := api.Tree{Kind: t.Kind, Exec: t.Exec, Data: t.Data}
	for _, x := range entries {
		out.Names = append(out.Names, x.name)
		out.Kids = append(out.Kids, x.kid)
	}
	return out
}

// inData lays the digits in the Data of t and of all below it.
func (s *swap) inData(t *api.Tree) {
	t.Data = s.inBytes(t.Data)
	for i := range t.Kids {
		s.inData(&t.Kids[i])
	}
}

// places is where digits stand in b, each looked for from behind the one ahead of it, so that no two overlap.
func places(b []byte, digits string) iter.Seq[int] {
	return func(yield func(int) bool) {
		want := []byte(digits)
		for from := 0; ; {
			ahead := bytes.Index(b[from:], want)
			if ahead < 0 || !yield(from+ahead) {
				return
			}
			from += ahead + len(want)
		}
	}
}
