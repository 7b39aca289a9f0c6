package scan

import (
	"slices"
	"strings"

	"pantry/api"
	"pantry/path"
)

const digitCount = 32 // of a path

// row is a path's digits.
type row [digitCount]byte

// search is one for the digits of many paths.
type search struct {
	paths []api.Path       // rising, each once
	unmet map[row]struct{} // their digits, but for those that were met
}

// searchFor is one for those that are paths.
func searchFor(of []api.Path) *search {
	s := &search{unmet: map[row]struct{}{}}
	for _, p := range of {
		if digits, _, e := path.Split(p); e == api.OK {
			s.paths = append(s.paths, p)
			s.unmet[row([]byte(digits))] = struct{}{}
		}
	}
	slices.Sort(s.paths)
	s.paths = slices.Compact(s.paths)
	return s
}

// look strikes out the rows that stand in b, and asks for them only behind as many digits as a path has.
func (s *search) look(b []byte) {
	run := 0
	for i := 0; i < len(b) && len(s.unmet) > 0; i++ {
		if !isDigit(b[i]) {
			run = 0
			continue
		}
		run++
		if run >= digitCount {
			delete(s.unmet, row(b[i+1-digitCount:i+1]))
		}
	}
}

// lookTree does so in each piece of what is a tree: no row goes on from one into another.
func (s *search) lookTree(t api.Tree) {
	s.look(t.Data)
	for i, name := range t.Names {
		s.look([]byte(name))
		s.lookTree(t.Kids[i])
	}
}

// met is the paths whose digits were met, in memory of their own.
func (s *search) met() []api.Path {
	var met []api.Path
	for _, p := range s.paths {
		if _, unmet := s.unmet[row([]byte(p[:digitCount]))]; !unmet {
			met = append(met, api.Path(strings.Clone(string(p))))
		}
	}
	return met
}

// isDigit tells whether a byte is one of those of chapter 2.
func isDigit(c byte) bool {
	switch {
	case '0' <= c && c <= '9':
		return true
	case 'a' <= c && c <= 'z':
		return c != 'e' && c != 'o' && c != 't' && c != 'u'
	}
	return false
}
