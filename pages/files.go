package pages

import (
	"cmp"
	"slices"
	"strconv"

	"pantry/api"
	"pantry/fs"
	"pantry/journal"
)

const (
	// Behind these the number of a sheet stands. The journal has all names that go on with a point.
	ownMark   = "-pages-"
	freshMark = "-fresh-"

	groupSize = 40      // bytes that a group takes in the log beside its records, or nearly so
	smallLog  = 1 << 10 // bytes of a log that is not worth being laid
)

// files is where pages lie: each sheet in a file of its own, and in the log what was changed since. Changes that are
// too long for the log are written into second files; a record without bytes then seals these in the log: from there
// on they are in force, and no other record is.
type files struct {
	disk   *fs.FS
	name   string
	log    *journal.Journal
	logged int          // bytes of its groups
	stale  [sheets]bool // which sheets have something in the log that their files lack
	fresh  []int        // which sheets have second files
	sealed bool         // the second files are in force; else a Commit left them that ended early
}

// file is what stands under a name.
type file struct {
	name string
	data []byte
}

// own is the name of a sheet's file.
func (s *files) own(k int) string { return s.name + ownMark + strconv.Itoa(k) }

// second is the name of the file that may come in the place of that.
func (s *files) second(k int) string { return s.name + freshMark + strconv.Itoa(k) }

// load is the pages that last. No file is changed.
func (s *files) load() []page {
	groups := s.log.Groups()
	s.sealed = seals(groups)
	var pages []page
	for k := range sheets {
		pages = s.loadSheet(pages, k)
	}
	if s.sealed {
		return pages
	}
	s.logged = groupSize * len(groups)
	for _, record := range slices.Concat(groups...) {
		if len(record) > 0 {
			pages = decode(pages, record)
			s.stale[record[0]] = true
			s.logged += len(record)
		}
	}
	return pages
}

// seals tells whether groups end with the record that seals second files.
func seals(groups [][][]byte) bool {
	if len(groups) == 0 {
		return false
	}
	end := groups[len(groups)-1]
	return len(end) == 1 && len(end[0]) == 0
}

// loadSheet is some pages and those of a sheet's file that is in force.
func (s *files) loadSheet(pages []page, k int) []page {
	b, e := s.disk.Read(s.second(k))
	if e == api.OK {
		s.fresh = append(s.fresh, k)
	}
	if e != api.OK || !s.sealed {
		b, _ = s.disk.Read(s.own(k))
	}
	if len(b) == 0 || int(b[0]) != k {
		return pages
	}
	return decode(pages, b)
}

// commit makes the pages that are dirty now last.
func (s *files) commit(lasting, now []page, dirty *marks) api.Errno {
	if e := s.tidy(); e != api.OK {
		return e
	}
	if s.logged >= max(smallLog, s.cost(lasting)) {
		// Where there is no room to lay it, the log may still have some.
		if e := s.lay(lasting); e != api.OK && e != api.ErrFull {
			return e
		}
	}
	e := s.store(now, dirty)
	if e != api.ErrFull || s.logged == 0 {
		return e
	}
	// A log that is laid gives its room back.
	if e := s.lay(lasting); e != api.OK {
		return e
	}
	return s.store(now, dirty)
}

// tidy lets no sheet have a second file any more: it is the only one, or is gone.
func (s *files) tidy() api.Errno {
	for _, k := range s.fresh {
		e := api.OK
		if s.sealed {
			e = s.disk.Rename(s.second(k), s.own(k))
		} else {
			e = s.disk.Remove(s.second(k))
		}
		if e != api.OK {
			return e
		}
	}
	s.fresh = nil
	if s.sealed {
		return s.forget()
	}
	return api.OK
}

// cost is how many bytes are written where the log is laid.
func (s *files) cost(lasting []page) int {
	sum := 0
	for k, stale := range s.stale {
		if stale {
			sum += weight(lasting, k, everyPage)
		}
	}
	return sum
}

// lay writes what the log has into the sheets' own files. Till it is forgotten, the log makes good whatever these
// have.
func (s *files) lay(lasting []page) api.Errno {
	var anew []file
	for k, stale := range s.stale {
		if stale {
			anew = append(anew, file{s.own(k), encode(lasting, k, everyPage)})
		}
	}
	if e := s.write(anew); e != api.OK {
		return e
	}
	return s.forget()
}

// forget lets the log be empty.
func (s *files) forget() api.Errno {
	if e := s.log.Reset(); e != api.OK {
		return e
	}
	s.logged, s.stale, s.sealed = 0, [sheets]bool{}, false
	return api.OK
}

// store makes the pages that are dirty now last, in the log or in second files.
func (s *files) store(now []page, dirty *marks) api.Errno {
	e := s.record(now, dirty)
	if e == api.ErrLong {
		return s.replace(now, dirty)
	}
	return e
}

// record lets the log have the pages that are dirty, a record for each sheet; ErrLong, if they are too long for it.
func (s *files) record(now []page, dirty *marks) api.Errno {
	// What was not committed must not come along another time.
	defer s.log.Drop()
	size := groupSize
	for k := range dirty {
		digits := dirty[k].Load()
		if digits == 0 {
			continue
		}
		b := encode(now, k, digits)
		if e := s.log.Add(b); e != api.OK {
			return e
		}
		size += len(b)
	}
	if e := s.log.Commit(); e != api.OK {
		return e
	}
	s.logged += size
	for k := range dirty {
		s.stale[k] = s.stale[k] || dirty[k].Load() != 0
	}
	return api.OK
}

// replace writes second files of all sheets that have dirty pages, or something in the log, and seals them.
func (s *files) replace(now []page, dirty *marks) api.Errno {
	var anew []file
	var fresh []int
	for k := range dirty {
		if s.stale[k] || dirty[k].Load() != 0 {
			anew = append(anew, file{s.second(k), encode(now, k, everyPage)})
			fresh = append(fresh, k)
		}
	}
	if e := s.write(anew); e != api.OK {
		return e
	}
	s.fresh = fresh
	e := s.seal()
	if e == api.ErrFull {
		return cmp.Or(s.tidy(), e)
	}
	// Behind any other error they stay: it does not tell whether they are sealed.
	return e
}

// seal lets the second files be in force.
func (s *files) seal() api.Errno {
	defer s.log.Drop()
	if e := cmp.Or(s.log.Add(nil), s.log.Commit()); e != api.OK {
		return e
	}
	s.sealed = true
	return api.OK
}

// write writes files, or changes none where there is no room for all.
func (s *files) write(anew []file) api.Errno {
	var undo []func() api.Errno
	for _, x := range anew {
		old, e := s.disk.Read(x.name)
		had := e == api.OK
		if e := s.disk.Write(x.name, x.data); e == api.ErrFull {
			return cmp.Or(undone(undo), e)
		} else if e != api.OK {
			return e
		}
		undo = append(undo, func() api.Errno {
			if had {
				return s.disk.Write(x.name, old)
			}
			return s.disk.Remove(x.name)
		})
	}
	return api.OK
}

// undone takes steps back, the last one first, up to an error.
func undone(undo []func() api.Errno) api.Errno {
	for _, back := range slices.Backward(undo) {
		if e := back(); e != api.OK {
			return e
		}
	}
	return api.OK
}
