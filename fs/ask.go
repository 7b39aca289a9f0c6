package fs

import (
	"bytes"
	"slices"
	"strings"

	"pantry/api"
)

// Read is a file's bytes.
func (f *FS) Read(name string) ([]byte, api.Errno) {
	if f == nil {
		return nil, api.ErrNone
	}
	f.lock.Lock()
	defer f.lock.Unlock()
	if !f.now.has(name) {
		return nil, api.ErrNone
	}
	return bytes.Clone(f.now.named[name].data), api.OK
}

// Names is the names that begin so, rising.
func (f *FS) Names(prefix string) []string {
	if f == nil {
		return nil
	}
	f.lock.Lock()
	defer f.lock.Unlock()
	var names []string
	for name := range f.now.named {
		if strings.HasPrefix(name, prefix) {
			names = append(names, strings.Clone(name))
		}
	}
	slices.Sort(names)
	return names
}

// Node is the first name of the file that a name names, and how many names it has.
func (f *FS) Node(name string) (first string, names int) {
	if f == nil {
		return "", 0
	}
	f.lock.Lock()
	defer f.lock.Unlock()
	if !f.now.has(name) {
		return "", 0
	}
	return strings.Clone(f.now.first(name)), int(f.now.named[name].names.Load())
}

// Pending is how many things were done that do not last.
func (f *FS) Pending() int {
	if f == nil {
		return 0
	}
	f.lock.Lock()
	defer f.lock.Unlock()
	return len(f.pending)
}

// Used is how many bytes there are.
func (f *FS) Used() int {
	if f == nil {
		return 0
	}
	f.lock.Lock()
	defer f.lock.Unlock()
	return f.now.used
}

// Copy is another one with the same files.
func (f *FS) Copy() *FS {
	if f == nil {
		return nil
	}
	f.lock.Lock()
	defer f.lock.Unlock()
	// Things know names and bytes alone, so that both may do the same ones.
	return &FS{room: f.room, now: f.now.clone(), lasting: f.lasting.clone(), pending: slices.Clone(f.pending)}
}
