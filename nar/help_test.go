package nar_test

import (
	"encoding/binary"
	"fmt"
	"math/rand/v2"
	"slices"
	"strings"
	"testing"
	"unsafe"

	"pantry/api"
	"pantry/tree"
)

func file(s string) api.Tree { return api.Tree{Kind: api.File, Data: []byte(s)} }

func program(s string) api.Tree { return api.Tree{Kind: api.File, Exec: true, Data: []byte(s)} }

func link(s string) api.Tree { return api.Tree{Kind: api.Link, Data: []byte(s)} }

// dir is a Dir of names, each with its Kid behind it.
func dir(entries ...any) api.Tree {
	t := api.Tree{Kind: api.Dir}
	for i := 0; i < len(entries); i += 2 {
		t.Names = append(t.Names, entries[i].(string))
		t.Kids = append(t.Kids, entries[i+1].(api.Tree))
	}
	return t
}

// under is t below so many Dirs.
func under(n int, t api.Tree) api.Tree {
	for range n {
		t = dir("d", t)
	}
	return t
}

// wide is a Dir of so many empty Files, one node more than these.
func wide(n int) api.Tree {
	t := api.Tree{Kind: api.Dir}
	for i := range n {
		t.Names = append(t.Names, fmt.Sprintf("f%08d", i))
		t.Kids = append(t.Kids, file(""))
	}
	return t
}

// endless is a Dir that is its own Kid.
func endless() api.Tree {
	kids := make([]api.Tree, 3)
	for i := range kids {
		kids[i] = api.Tree{Kind: api.Dir, Names: []string{"a", "b", "c"}, Kids: kids}
	}
	return kids[0]
}

// house is a tree with all that trees have.
func house() api.Tree {
	return dir(
		"a", dir("b", file("one"), "empty", dir(), "l", link("b")),
		"a.c", program("two"),
		"l", link("a/b"),
		"x", program(""),
		"z", file(""))
}

// trees are small ones of all kinds.
func trees() []api.Tree {
	return []api.Tree{
		file(""), file("a"), program(""), program("a"), link("to"), dir(), dir("a", dir()), dir("a", file("x"), "b", link("a")),
		file("1234567"), file("12345678"), file("123456789"), program("12345678"), link("12345678"), dir("12345678", file("")), house(),
	}
}

// textBytes are texts' bytes, one behind the other.
func textBytes(texts ...string) []byte {
	var b []byte
	for _, text := range texts {
		b = binary.LittleEndian.AppendUint64(b, uint64(len(text)))
		b = append(b, text...)
		b = append(b, "\x00\x00\x00\x00\x00\x00\x00\x00"[:(len(text)+7)/8*8-len(text)]...)
	}
	return b
}

// words are the bytes of texts with one space between; _ is an empty one.
func words(line string) []byte {
	texts := strings.Split(line, " ")
	for i, text := range texts {
		if text == "_" {
			texts[i] = ""
		}
	}
	return textBytes(texts...)
}

// treeTexts are the texts that a tree's bytes are made of.
func treeTexts(t api.Tree) []string { return addTexts([]string{"nix-archive-1"}, t) }

func addTexts(all []string, t api.Tree) []string {
	kind := map[int]string{api.File: "regular", api.Link: "symlink", api.Dir: "directory"}[t.Kind]
	all = append(all, "(", "type", kind)
	if t.Exec {
		all = append(all, "executable", "")
	}
	if what := map[string]string{"regular": "contents", "symlink": "target"}[kind]; what != "" {
		all = append(all, what, string(t.Data))
	}
	for i, name := range t.Names {
		all = append(all, "entry", "(", "name", name, "node")
		all = append(addTexts(all, t.Kids[i]), ")")
	}
	return append(all, ")")
}

// treeBytes are a tree's bytes, whether it is one or not.
func treeBytes(t api.Tree) []byte { return textBytes(treeTexts(t)...) }

// wantText is the next text of b and what stands behind it, or the error.
func wantText(b []byte) (string, []byte, api.Errno) {
	if len(b) < 8 {
		return "", nil, api.ErrShort
	}
	n := binary.LittleEndian.Uint64(b)
	if n > 1<<21 {
		return "", nil, api.ErrForm
	}
	end := 8 + (n+7)/8*8
	if uint64(len(b)) < end {
		return "", nil, api.ErrShort
	}
	if strings.Trim(string(b[8+n:end]), "\x00") != "" {
		return "", nil, api.ErrForm
	}
	return string(b[8 : 8+n]), b[end:], api.OK
}

// model works out what is read over a list of what is still to come, the next one last.
type model struct {
	rest  []byte
	ahead []string // =x: the text x; else what is read next
	above []api.Tree
	nodes int
	whole api.Tree
}

func (m *model) then(steps ...string) api.Errno {
	slices.Reverse(steps)
	m.ahead = append(m.ahead, steps...)
	return api.OK
}

func (m *model) top() *api.Tree { return &m.above[len(m.above)-1] }

// step does what comes next, ahead of any text or behind the one that is read.
func (m *model) step(next, text string) api.Errno {
	switch {
	case next == "data":
		m.top().Data = []byte(text)
		return m.then("=)", "close")
	case next == "name":
		m.top().Names = append(m.top().Names, text)
		return api.OK
	case next == "="+text:
		return api.OK
	case next == "kind" && text == "regular":
		m.top().Kind = api.File
		return m.then("regular")
	case next == "regular" && text == "executable":
		m.top().Exec = true
		return m.then("=", "=contents", "data")
	case next == "regular" && text == "contents":
		return m.then("data")
	case next == "kind" && text == "symlink":
		m.top().Kind = api.Link
		return m.then("=target", "data")
	case next == "kind" && text == "directory":
		m.top().Kind = api.Dir
		return m.then("entries")
	case next == "entries" && text == "entry":
		return m.then("=(", "=name", "name", "=node", "node", "=)", "entries")
	case next == "entries" && text == ")":
		return m.then("close")
	}
	return api.ErrForm
}

func (m *model) begin() api.Errno {
	m.nodes++
	m.above = append(m.above, api.Tree{})
	if m.nodes > 65536 || len(m.above) > 64 {
		return api.ErrLong
	}
	return m.then("=(", "=type", "kind")
}

func (m *model) close() {
	m.whole = *m.top()
	m.above = m.above[:len(m.above)-1]
	if len(m.above) > 0 {
		m.top().Kids = append(m.top().Kids, m.whole)
	}
}

// wantRead is what Decode is to answer (and, if what stands behind does not count, how many bytes Split is to).
func wantRead(b []byte, behind bool) (api.Tree, int, api.Errno) {
	m := &model{rest: b}
	m.then("=nix-archive-1", "node")
	for len(m.ahead) > 0 {
		next := m.ahead[len(m.ahead)-1]
		m.ahead = m.ahead[:len(m.ahead)-1]
		var text string
		e := api.OK
		switch next {
		case "node":
			e = m.begin()
		case "close":
			m.close()
		default:
			if text, m.rest, e = wantText(m.rest); e == api.OK {
				e = m.step(next, text)
			}
		}
		if e != api.OK {
			return api.Tree{}, 0, e
		}
	}
	if len(m.rest) > 0 && !behind {
		return api.Tree{}, 0, api.ErrForm
	}
	if e := tree.Check(m.whole); e != api.OK {
		return api.Tree{}, 0, e
	}
	return m.whole, len(b) - len(m.rest), api.OK
}

// told is a tree in words, with the room behind the ends of its lists.
func told(t api.Tree) string {
	var b strings.Builder
	fmt.Fprintf(&b, "%d %v %q|%q %q|%q", t.Kind, t.Exec, t.Data, t.Data[len(t.Data):cap(t.Data)], t.Names, t.Names[len(t.Names):cap(t.Names)])
	for _, kid := range t.Kids {
		b.WriteString(" (" + told(kid) + ")")
	}
	fmt.Fprintf(&b, "|%v", t.Kids[len(t.Kids):cap(t.Kids)])
	return b.String()
}

// roomy is a copy of a tree with room behind the ends of all its lists, in which something stands.
func roomy(t api.Tree) api.Tree {
	c := api.Tree{Kind: t.Kind, Exec: t.Exec}
	c.Data = append(append(c.Data, t.Data...), "room"...)[:len(t.Data)]
	c.Names = append(append(c.Names, t.Names...), "room", "more")[:len(t.Names)]
	for _, kid := range t.Kids {
		c.Kids = append(c.Kids, roomy(kid))
	}
	c.Kids = append(c.Kids, api.Tree{Kind: 77}, api.Tree{Kind: 78})[:len(t.Kids)]
	return c
}

func isZero(t api.Tree) bool {
	return t.Kind == 0 && !t.Exec && len(t.Data)+len(t.Names)+len(t.Kids) == 0
}

// span is some memory.
type span struct{ from, to uintptr }

// listSpans are the memory of a tree's lists up to the ends of their room.
func listSpans(t api.Tree) []span {
	all := []span{spanOf(t.Data), spanOf(t.Names), spanOf(t.Kids)}
	for _, kid := range t.Kids {
		all = append(all, listSpans(kid)...)
	}
	return slices.DeleteFunc(all, func(s span) bool { return s.from == s.to })
}

// nameSpans are the memory of a tree's names.
func nameSpans(t api.Tree) []span {
	var all []span
	for i, name := range t.Names {
		from := uintptr(unsafe.Pointer(unsafe.StringData(name)))
		all = append(all, span{from, from + uintptr(len(name))})
		all = append(all, nameSpans(t.Kids[i])...)
	}
	return all
}

func spanOf[T any](list []T) span {
	var one T
	from := uintptr(unsafe.Pointer(unsafe.SliceData(list)))
	return span{from, from + uintptr(cap(list))*unsafe.Sizeof(one)}
}

// meets tells whether one of some memory is in other memory.
func meets(some, other []span) bool {
	for _, a := range some {
		for _, b := range other {
			if a.from < b.to && b.from < a.to {
				return true
			}
		}
	}
	return false
}

// meetItself tells whether two of some memory share any.
func meetItself(all []span) bool {
	for i := range all {
		if meets(all[i:i+1], all[i+1:]) {
			return true
		}
	}
	return false
}

// rounds is how often something is tried: a tenth of that, if it is to be short.
func rounds(n int) int {
	if testing.Short() {
		return n / 10
	}
	return n
}

func dice() *rand.Rand { return rand.New(rand.NewPCG(5, 1)) }

func someText(r *rand.Rand, least int) string {
	b := make([]byte, least+r.IntN(20))
	for i := range b {
		b[i] = byte(r.UintN(256))
	}
	return string(b)
}

// someTree is a tree of at most so many levels.
func someTree(r *rand.Rand, levels int) api.Tree {
	switch n := r.IntN(8); {
	case n == 0:
		return link(someText(r, 1))
	case n == 1:
		return program(someText(r, 0))
	case n == 2 || levels == 1:
		return file(someText(r, 0))
	}
	t := dir()
	for _, name := range []string{"...", "7 bytes", "8  bytes", "9   bytes", "A", "a", "node", "é"} {
		if r.IntN(3) == 0 {
			t.Names = append(t.Names, name)
			t.Kids = append(t.Kids, someTree(r, levels-1))
		}
	}
	return t
}
