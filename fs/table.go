package fs

import (
	"slices"
	"sync/atomic"

	"pantry/api"
)

// file is what names name.
type file struct {
	// What is in data never changes, so that tables and things may share it. The room behind its end is that of
	// one file in one FS's now: there alone something is appended, and a clone has none.
	data  []byte
	names atomic.Int32 // how many name it
}

// table is names with their files.
type table struct {
	named map[string]*file
	used  int // bytes of all files
}

// has tells whether there is such a name.
func (t *table) has(name string) bool { return t.named[name] != nil }

// full tells whether there may be no more names.
func (t *table) full() bool { return len(t.named) >= api.MaxNames }

// alone is how many bytes would be gone with a name: those of a file that has no other one.
func (t *table) alone(name string) int {
	x := t.named[name]
	if x == nil || x.names.Load() > 1 {
		return 0
	}
	return len(x.data)
}

// first is the least name of the file that a name names.
func (t *table) first(name string) string {
	x := t.named[name]
	if x.names.Load() == 1 {
		return name
	}
	for other, y := range t.named {
		if y == x && other < name {
			name = other
		}
	}
	return name
}

// write lays a new file under a name.
func (t *table) write(name string, data []byte) {
	t.used += len(data)
	t.lay(name, &file{data: data})
}

// fill gives the file of a name other bytes.
func (t *table) fill(name string, data []byte) {
	x := t.named[name]
	t.used += len(data) - len(x.data)
	x.data = data
}

// move lays the file of one name under another one alone.
func (t *table) move(old, name string) {
	if old == name {
		return
	}
	t.lay(name, t.named[old])
	t.drop(old)
}

// lay lets a name name a file.
func (t *table) lay(name string, x *file) {
	t.drop(name)
	x.names.Add(1)
	if t.named == nil {
		t.named = map[string]*file{}
	}
	t.named[name] = x
}

// drop lets a name name nothing.
func (t *table) drop(name string) {
	x := t.named[name]
	if x == nil {
		return
	}
	delete(t.named, name)
	if x.names.Add(-1) == 0 {
		t.used -= len(x.data)
	}
}

// clone is the same names with files of its own.
func (t *table) clone() table {
	c := table{named: make(map[string]*file, len(t.named)), used: t.used}
	twins := make(map[*file]*file, len(t.named))
	for name, x := range t.named {
		twin := twins[x]
		if twin == nil {
			twin = &file{data: slices.Clip(x.data)}
			twins[x] = twin
		}
		twin.names.Add(1)
		c.named[name] = twin
	}
	return c
}
