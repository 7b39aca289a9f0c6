package tree_test

import (
	"fmt"
	"math/rand/v2"
	"slices"
	"strings"
	"testing"
	"unsafe"

	"pantry/api"
)

func file(s string) api.Tree { return api.Tree{Kind: api.File, Data: []byte(s)} }

func program(s string) api.Tree { return api.Tree{Kind: api.File, Exec: true, Data: []byte(s)} }

func link(s string) api.Tree { return api.Tree{Kind: api.Link, Data: []byte(s)} }

// dir is a Dir of names, each with its Kid behind it.
func dir(entries ...any) api.Tree {
	t := api.Tree{Kind: api.Dir}
	for i := 0; i < len(entries); i += 2 {
		t.Names = append(t.Names, entries[i].(string))
		t.Kids = append(t.Kids, entries[i+1].(api.Tree))
	}
	return t
}

// under is t below so many Dirs.
func under(n int, t api.Tree) api.Tree {
	for range n {
		t = dir("d", t)
	}
	return t
}

// wide is a Dir of so many empty Files, one node more than these.
func wide(n int) api.Tree {
	t := api.Tree{Kind: api.Dir}
	for i := range n {
		t.Names = append(t.Names, fmt.Sprintf("f%08d", i))
		t.Kids = append(t.Kids, file(""))
	}
	return t
}

// endless is a Dir that is its own Kid.
func endless() api.Tree {
	kids := make([]api.Tree, 3)
	for i := range kids {
		kids[i] = api.Tree{Kind: api.Dir, Names: []string{"a", "b", "c"}, Kids: kids}
	}
	return kids[0]
}

// wrongNames are texts that no entry may have as its name.
func wrongNames() []string {
	return []string{"", ".", "..", "/", "a/", "/a", "a/b", "\x00", "a\x00", "\x00a", "a\x00b", strings.Repeat("n", 101), strings.Repeat("n", 100) + "/", strings.Repeat("n", 1<<16)}
}

// wrongPlaces are texts that are no places.
func wrongPlaces() []string {
	places := []string{"/", "//", "a//b", "a/", "/a", "a/b/", "a/./b", "a/../b", "a/b/..", "../a", "./a", "a/b\x00", strings.Repeat("a/", 100), strings.Repeat("a/", 1<<16) + "."}
	for _, name := range wrongNames()[1:] {
		if !strings.HasPrefix(name, "a/b") {
			places = append(places, name, "a/"+name, name+"/a", "a/"+name+"/b")
		}
	}
	return places
}

// wrongTree is what is no tree, with the error that tells so.
type wrongTree struct {
	what string
	t    api.Tree
	e    api.Errno
}

func wrongTrees() []wrongTree {
	return []wrongTree{
		{"nothing", api.Tree{}, api.ErrForm},
		{"a link to nothing", dir("a", api.Tree{Kind: api.Link}), api.ErrForm},
		{"a directory with data", api.Tree{Kind: api.Dir, Data: []byte("x")}, api.ErrForm},
		{"a long link", dir("a", file(""), "b", link(strings.Repeat("x", 1001))), api.ErrLong},
		{"a long file", file(strings.Repeat("x", api.MaxFile+1)), api.ErrLong},
		{"a deep tree", under(api.MaxDeep, dir()), api.ErrLong},
		{"an endless tree", endless(), api.ErrLong},
		{"a wrong name", dir("a", dir("..", file(""))), api.ErrName},
		{"names that fall", dir("b", file(""), "a", file("")), api.ErrName},
		{"names alike", dir("a", file(""), "a", file("")), api.ErrName},
	}
}

// wantCheck is what Check is to answer, worked out over a list of what is still to be met.
func wantCheck(t api.Tree) api.Errno {
	type node struct {
		t    api.Tree
		deep int
	}
	ahead := []node{{t, 1}}
	for met := 1; len(ahead) > 0; met++ {
		n := ahead[len(ahead)-1]
		ahead = ahead[:len(ahead)-1]
		if met > 65536 || n.deep > 64 {
			return api.ErrLong
		}
		if e := wantNode(n.t); e != api.OK {
			return e
		}
		for _, kid := range slices.Backward(n.t.Kids) {
			ahead = append(ahead, node{kid, n.deep + 1})
		}
	}
	return api.OK
}

func wantNode(t api.Tree) api.Errno {
	longest := map[int]int{api.File: 1 << 20, api.Link: 1000, api.Dir: 0}
	max, known := longest[t.Kind]
	switch {
	case !known, t.Kind != api.File && t.Exec, t.Kind != api.Dir && len(t.Names)+len(t.Kids) > 0:
		return api.ErrForm
	case t.Kind == api.Dir && len(t.Data) > 0, len(t.Names) != len(t.Kids):
		return api.ErrForm
	case len(t.Data) > max:
		return api.ErrLong
	case t.Kind == api.Link && len(t.Data) == 0:
		return api.ErrForm
	}
	last := ""
	for _, name := range t.Names {
		wrong := name == "." || name == ".." || len(name) > 100 || strings.ContainsAny(name, "/\x00")
		if wrong || strings.Compare(last, name) >= 0 {
			return api.ErrName
		}
		last = name
	}
	return api.OK
}

// flat is a tree as a map from places to what stands there without its entries.
func flat(t api.Tree) map[string]string {
	m := map[string]string{}
	flatten(m, "", t)
	return m
}

func flatten(m map[string]string, place string, t api.Tree) {
	m[place] = fmt.Sprint(t.Kind, t.Exec, " ") + string(t.Data)
	for i, name := range t.Names {
		flatten(m, strings.TrimPrefix(place+"/"+name, "/"), t.Kids[i])
	}
}

// isIn tells whether a place is another one or below it.
func isIn(place, other string) bool {
	return other == "" || place == other || strings.HasPrefix(place, other+"/")
}

// above are the places above one, the tree itself first.
func above(place string) []string {
	var all []string
	if place != "" {
		all = append(all, "")
	}
	for i, c := range []byte(place) {
		if c == '/' {
			all = append(all, place[:i])
		}
	}
	return all
}

// told is a tree in words, with the room behind the ends of its lists.
func told(t api.Tree) string {
	var b strings.Builder
	fmt.Fprintf(&b, "%d %v %q|%q %q|%q", t.Kind, t.Exec, t.Data, t.Data[len(t.Data):cap(t.Data)], t.Names, t.Names[len(t.Names):cap(t.Names)])
	for _, kid := range t.Kids {
		b.WriteString(" (" + told(kid) + ")")
	}
	fmt.Fprintf(&b, "|%v", t.Kids[len(t.Kids):cap(t.Kids)])
	return b.String()
}

// roomy is a copy of a tree with room behind the ends of all its lists, in which something stands.
func roomy(t api.Tree) api.Tree {
	c := api.Tree{Kind: t.Kind, Exec: t.Exec}
	c.Data = append(append(c.Data, t.Data...), "room"...)[:len(t.Data)]
	c.Names = append(append(c.Names, t.Names...), "room", "more")[:len(t.Names)]
	for _, kid := range t.Kids {
		c.Kids = append(c.Kids, roomy(kid))
	}
	c.Kids = append(c.Kids, api.Tree{Kind: 77}, api.Tree{Kind: 78})[:len(t.Kids)]
	return c
}

// span is some memory.
type span struct{ from, to uintptr }

// spans are the memory of a tree: of its lists up to the ends of their room, and of its names.
func spans(t api.Tree) []span {
	all := []span{spanOf(t.Data), spanOf(t.Names), spanOf(t.Kids)}
	for i, name := range t.Names {
		from := uintptr(unsafe.Pointer(unsafe.StringData(name)))
		all = append(all, span{from, from + uintptr(len(name))})
		all = append(all, spans(t.Kids[i])...)
	}
	return slices.DeleteFunc(all, func(s span) bool { return s.from == s.to })
}

func spanOf[T any](list []T) span {
	var one T
	from := uintptr(unsafe.Pointer(unsafe.SliceData(list)))
	return span{from, from + uintptr(cap(list))*unsafe.Sizeof(one)}
}

// meets tells whether one of some memory is in other memory.
func meets(some, other []span) bool {
	for _, a := range some {
		for _, b := range other {
			if a.from < b.to && b.from < a.to {
				return true
			}
		}
	}
	return false
}

// meetItself tells whether two of some memory share any.
func meetItself(all []span) bool {
	for i := range all {
		if meets(all[i:i+1], all[i+1:]) {
			return true
		}
	}
	return false
}

// rounds is how often something is tried: a tenth of that, if it is to be short.
func rounds(n int) int {
	if testing.Short() {
		return n / 10
	}
	return n
}

func dice() *rand.Rand { return rand.New(rand.NewPCG(4, 1)) }

// someNames are few, so that they meet often; their order is not that of their places.
func someNames() []string { return []string{"A", "a", "a-", "a.c", "a0", "b", "...", "é"} }

func somePlace(r *rand.Rand) string {
	var names []string
	for range r.IntN(5) {
		names = append(names, someNames()[r.IntN(len(someNames()))])
	}
	return strings.Join(names, "/")
}

// someTree is a tree of at most so many levels.
func someTree(r *rand.Rand, levels int) api.Tree {
	text := strings.Repeat("x", r.IntN(3))
	switch n := r.IntN(8); {
	case n == 0:
		return link(text + "y")
	case n == 1:
		return program(text)
	case n == 2 || levels == 1:
		return file(text)
	}
	t := dir()
	names := someNames()
	slices.Sort(names)
	for _, name := range names {
		if r.IntN(2) == 0 {
			t.Names = append(t.Names, name)
			t.Kids = append(t.Kids, someTree(r, levels-1))
		}
	}
	return t
}
