package tree

import (
	"strings"

	"pantry/api"
)

const (
	maxEntry  = 100  // bytes of an entry's name
	maxTarget = 1000 // bytes of a link's Data
)

// Check tells whether a tree is one.
func Check(t api.Tree) api.Errno {
	nodes := 0
	return check(t, 1, &nodes)
}

// check asks a node that is so deep, and all below; nodes is how many were met ahead of it.
func check(t api.Tree, deep int, nodes *int) api.Errno {
	// Lists may hold themselves: these two bounds are what ends it then.
	*nodes++
	if *nodes > api.MaxTree || deep > api.MaxDeep {
		return api.ErrLong
	}
	if e := checkNode(t); e != api.OK {
		return e
	}
	for _, kid := range t.Kids {
		if e := check(kid, deep+1, nodes); e != api.OK {
			return e
		}
	}
	return api.OK
}

// checkNode asks a node alone, whatever its Kids are.
func checkNode(t api.Tree) api.Errno {
	switch {
	case !isFormed(t):
		return api.ErrForm
	case t.Kind == api.File && len(t.Data) > api.MaxFile, t.Kind == api.Link && len(t.Data) > maxTarget:
		return api.ErrLong
	case t.Kind == api.Link && len(t.Data) == 0:
		return api.ErrForm
	}
	for i, name := range t.Names {
		if !isEntry(name) || i > 0 && name <= t.Names[i-1] {
			return api.ErrName
		}
	}
	return api.OK
}

// isFormed tells whether a node has no more than its Kind has, and a Dir as many Kids as Names.
func isFormed(t api.Tree) bool {
	switch t.Kind {
	case api.File:
		return len(t.Names) == 0 && len(t.Kids) == 0
	case api.Link:
		return !t.Exec && len(t.Names) == 0 && len(t.Kids) == 0
	case api.Dir:
		return !t.Exec && len(t.Data) == 0 && len(t.Kids) == len(t.Names)
	}
	return false
}

// isEntry tells whether an entry may have that name.
func isEntry(name string) bool {
	if len(name) < 1 || len(name) > maxEntry || name == "." || name == ".." {
		return false
	}
	return strings.IndexByte(name, '/') < 0 && strings.IndexByte(name, 0) < 0
}

// isPlace tells whether a text is the tree itself, or entries' names with / between.
func isPlace(place string) bool {
	if place == "" {
		return true
	}
	for name := range strings.SplitSeq(place, "/") {
		if !isEntry(name) {
			return false
		}
	}
	return true
}
