package journal

import (
	"cmp"
	"strconv"
	"strings"

	"pantry/api"
	"pantry/fs"
)

// partMark stands between a journal's name and the number of a file in which groups go on.
const partMark = ".part-"

// files is where a journal lies: its groups stand one behind the other in the file of its name, and where a file
// has no room for one, they go on in the next part.
type files struct {
	disk  *fs.FS
	name  string
	parts int // how many hold groups; the first one may hold none
	// What is none of the journal's is left till a group is laid, so that Open changes no file.
	strays []string // files with the names of further parts
	torn   bool     // there are other bytes behind the groups of the last part
	whole  []byte   // what that part is to be, if it is torn
}

// part is the name of a file.
func (s *files) part(n int) string {
	if n == 0 {
		return s.name
	}
	return s.name + partMark + strconv.Itoa(n)
}

// load is the groups that are there.
func (s *files) load() []*group {
	var groups []*group
	for !s.torn {
		b, e := s.disk.Read(s.part(s.parts))
		if e != api.OK {
			break
		}
		known := len(groups)
		var size int
		groups, size = readGroups(groups, b)
		// One with no group that goes on here is left from ahead of a Reset, or by a Commit that ended early.
		if s.parts > 0 && len(groups) == known {
			break
		}
		s.parts++
		if size < len(b) {
			s.torn, s.whole = true, b[:size]
		}
	}
	s.strays = s.partsFrom(s.parts)
	return groups
}

// partsFrom is the names of all parts that there are from a number on.
func (s *files) partsFrom(first int) []string {
	var found []string
	for _, name := range s.disk.Names(s.name + partMark) {
		n, err := strconv.Atoi(strings.TrimPrefix(name, s.name+partMark))
		if err == nil && n >= first && name == s.part(n) {
			found = append(found, name)
		}
	}
	return found
}

// lay makes the bytes of a group last behind the others.
func (s *files) lay(b []byte) api.Errno {
	if e := s.mend(); e != api.OK {
		return e
	}
	if e := s.add(b); e != api.OK {
		return e
	}
	return s.disk.Sync()
}

// mend takes away what is none of the journal's: behind other bytes a group would not be found, and a stray could be
// one that goes on behind it.
func (s *files) mend() api.Errno {
	if e := s.sweep(); e != api.OK || !s.torn {
		return e
	}
	if e := s.disk.Write(s.part(s.parts-1), s.whole); e != api.OK {
		return e
	}
	s.torn, s.whole = false, nil
	return api.OK
}

// sweep removes the strays.
func (s *files) sweep() api.Errno {
	for _, name := range s.strays {
		if e := s.disk.Remove(name); e != api.OK {
			return e
		}
	}
	s.strays = nil
	return api.OK
}

// add appends the bytes of a group to the last part, or to a new one.
func (s *files) add(b []byte) api.Errno {
	if s.parts > 0 {
		if e := s.disk.Append(s.part(s.parts-1), b); e != api.ErrLong {
			return e
		}
	}
	name := s.part(s.parts)
	if e := s.disk.Write(name, nil); e != api.OK {
		return e
	}
	if e := s.disk.Append(name, b); e != api.OK {
		return cmp.Or(s.disk.Remove(name), e)
	}
	s.parts++
	return api.OK
}

// forget makes it last that there is no group.
func (s *files) forget() api.Errno {
	if s.parts > 0 {
		// This one thing ends all groups: no further part goes on behind none.
		if e := s.disk.Write(s.name, nil); e != api.OK {
			return e
		}
	}
	for n := 1; n < s.parts; n++ {
		s.strays = append(s.strays, s.part(n))
	}
	s.parts, s.torn, s.whole = min(s.parts, 1), false, nil
	if e := s.sweep(); e != api.OK {
		return e
	}
	return s.disk.Sync()
}
