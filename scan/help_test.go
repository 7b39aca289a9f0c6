package scan_test

import (
	"crypto/sha256"
	"fmt"
	"math/rand/v2"
	"regexp"
	"slices"
	"strings"
	"testing"
	"unsafe"

	"pantry/api"
	"pantry/tree"
)

const (
	alphabet = "0123456789abcdfghijklmnpqrsvwxyz"
	rowA     = "f4kwnki3rvsan1gigc9yd7jjl3v47c0a"
	rowB     = "79445349p2znr94mglpq3gd0jxgjdhcl"
	rowC     = "zs60x5hb5vsj6nhyy3nbz3hi53k9fq3l"
	pathA    = api.Path(rowA + "-hello-2.12")
	pathB    = api.Path(rowB + "-lib")
	pathC    = api.Path(rowC + "-c")
)

// pathForm is what a path is, in words of another kind.
var pathForm = regexp.MustCompile(`\A[0-9a-df-np-sv-z]{32}-[0-9A-Za-z+\-_?=][0-9A-Za-z+\-._?=]{0,79}\z`)

// wrongPaths are texts that are no paths, although most of them begin with a row of digits.
func wrongPaths() []api.Path {
	texts := []string{
		"", "-", "none", rowA, rowA + "-", rowA + "hello", rowA + "_hello", rowA + "-.hello", rowA + "-a/b", rowA + "-a b", rowA + "-\x00", rowA + "-é",
		rowA[1:] + "-hello", "0" + rowA + "-hello", " " + rowA + "-hello", "/" + rowA + "-hello", "-" + rowA[1:] + "-hello",
		"e" + rowA[1:] + "-hello", rowA[:31] + "o-hello", "A" + rowA[1:] + "-hello", rowA[:31] + "\x00-hello", strings.ToUpper(rowA) + "-hello",
		rowA + "-" + strings.Repeat("n", api.MaxName+1), strings.Repeat("0", 1<<20), rowA + "-" + strings.Repeat("n", 1<<20),
	}
	paths := make([]api.Path, len(texts))
	for i, text := range texts {
		paths[i] = api.Path(text)
	}
	return paths
}

// goodPaths are paths of one row, with the shortest and the longest names.
func goodPaths(row string) []api.Path {
	var paths []api.Path
	for _, name := range []string{"a", "-", "Z", "hello-2.12", "+-._?=", "a..", strings.Repeat("n", api.MaxName), strings.Repeat("0", api.MaxName), rowB, rowB + "-" + rowC} {
		paths = append(paths, api.Path(row+"-"+name))
	}
	return paths
}

// wantRefs is what Refs is to answer of pieces none of which goes on in another one.
func wantRefs(pieces []string, of []api.Path) []api.Path {
	var want []api.Path
	for _, p := range of {
		stands := func(piece string) bool { return strings.Contains(piece, string(p[:32])) }
		if pathForm.MatchString(string(p)) && slices.ContainsFunc(pieces, stands) && !slices.Contains(want, p) {
			want = append(want, p)
		}
	}
	slices.Sort(want)
	return want
}

// wantPlaces are where a row stands in s, gone through byte by byte.
func wantPlaces(s, row string) []int {
	var places []int
	for i := 0; i < len(s); i++ {
		if strings.HasPrefix(s[i:], row) {
			places = append(places, i)
			i += len(row) - 1
		}
	}
	return places
}

// wantRewrite is s with one row in the stead of another one, and how often.
func wantRewrite(s, from, to string) (string, int) {
	places := wantPlaces(s, from)
	var b strings.Builder
	end := 0
	for _, place := range places {
		b.WriteString(s[end:place] + to)
		end = place + 32
	}
	return b.String() + s[end:], len(places)
}

// wantModulo is the digest of s but for a row.
func wantModulo(s, row string) api.Hash {
	rest, _ := wantRewrite(s, row, strings.Repeat("\x00", 32))
	for _, place := range wantPlaces(s, row) {
		rest += fmt.Sprintf("|%d", place)
	}
	return sha256.Sum256([]byte(rest))
}

// node is one of a tree's, with the names on the way to it.
type node struct {
	way  []string
	kind int
	exec bool
	data string
}

// nodesOf are a tree's nodes, by the order of their ways.
func nodesOf(t api.Tree) []node {
	all := addNodes(nil, t, nil)
	slices.SortStableFunc(all, func(a, b node) int { return slices.Compare(a.way, b.way) })
	return all
}

func addNodes(all []node, t api.Tree, way []string) []node {
	all = append(all, node{slices.Clone(way), t.Kind, t.Exec, string(t.Data)})
	for i, name := range t.Names {
		all = addNodes(all, t.Kids[i], append(way, name))
	}
	return all
}

// piecesOf are all Data of a tree, and all its names.
func piecesOf(t api.Tree) []string {
	pieces := []string{string(t.Data)}
	for i, name := range t.Names {
		pieces = append(append(pieces, name), piecesOf(t.Kids[i])...)
	}
	return pieces
}

// wantRewriteTree is what RewriteTree is to answer: the nodes by their ways, how often, and the error.
func wantRewriteTree(t api.Tree, from, to api.Path) ([]node, int, api.Errno) {
	if e := tree.Check(t); e != api.OK {
		return nil, 0, e
	}
	if !pathForm.MatchString(string(from)) || !pathForm.MatchString(string(to)) {
		return nil, 0, api.ErrForm
	}
	all, times := nodesOf(t), 0
	swap := func(s *string) (n int) {
		*s, n = wantRewrite(*s, string(from[:32]), string(to[:32]))
		return n
	}
	for i := range all {
		times += swap(&all[i].data)
		for k := range all[i].way {
			// A name counts at its own node alone, and stands on the ways of all below.
			if n := swap(&all[i].way[k]); k == len(all[i].way)-1 {
				times += n
			}
		}
	}
	slices.SortStableFunc(all, func(a, b node) int { return slices.Compare(a.way, b.way) })
	for i := range all[1:] {
		if slices.Equal(all[i].way, all[i+1].way) {
			return nil, 0, api.ErrName
		}
	}
	return all, times, api.OK
}

func file(s string) api.Tree { return api.Tree{Kind: api.File, Data: []byte(s)} }

func program(s string) api.Tree { return api.Tree{Kind: api.File, Exec: true, Data: []byte(s)} }

func link(s string) api.Tree { return api.Tree{Kind: api.Link, Data: []byte(s)} }

// dir is a Dir of names, each with its Kid behind it.
func dir(entries ...any) api.Tree {
	t := api.Tree{Kind: api.Dir}
	for i := 0; i < len(entries); i += 2 {
		t.Names = append(t.Names, entries[i].(string))
		t.Kids = append(t.Kids, entries[i+1].(api.Tree))
	}
	return t
}

// under is t below so many Dirs.
func under(n int, t api.Tree) api.Tree {
	for range n {
		t = dir("d", t)
	}
	return t
}

// wide is a Dir of so many Files that are one, one node more than these.
func wide(n int, kid api.Tree) api.Tree {
	t := api.Tree{Kind: api.Dir}
	for i := range n {
		t.Names = append(t.Names, fmt.Sprintf("f%08d", i))
		t.Kids = append(t.Kids, kid)
	}
	return t
}

// endless is a Dir that is its own Kid.
func endless() api.Tree {
	kids := make([]api.Tree, 3)
	for i := range kids {
		kids[i] = api.Tree{Kind: api.Dir, Names: []string{rowB, "a", rowA}, Kids: kids}
	}
	return kids[0]
}

// house is a tree in which rowA stands at places of all kinds.
func house() api.Tree {
	return dir(
		"bin", dir("run", program("#!"+rowA+"/sh\n"), "to", link("../"+rowA+"/to")),
		"empty", dir(),
		rowA+"-doc", dir("x-"+rowA, file(rowA+rowA), "y", file("")),
		"lib", file(rowB+rowA[:31]),
		"z", program(""))
}

// wrong is what is no tree, and Check's error.
type wrong struct {
	what string
	t    api.Tree
	e    api.Errno
}

// wrongTrees are none, although rows stand in them.
func wrongTrees() []wrong {
	return []wrong{
		{"nothing", api.Tree{}, api.ErrForm},
		{"a kind that is none", api.Tree{Kind: 4, Data: []byte(rowA)}, api.ErrForm},
		{"a directory with data", api.Tree{Kind: api.Dir, Data: []byte(rowA)}, api.ErrForm},
		{"a link with Exec", api.Tree{Kind: api.Link, Exec: true, Data: []byte(rowA)}, api.ErrForm},
		{"a link to nothing", dir(rowA, api.Tree{Kind: api.Link}), api.ErrForm},
		{"a file with names", api.Tree{Kind: api.File, Data: []byte(rowA), Names: []string{rowA}}, api.ErrForm},
		{"more names than kids", api.Tree{Kind: api.Dir, Names: []string{"a", rowA}, Kids: []api.Tree{file(rowA)}}, api.ErrForm},
		{"more kids than names", api.Tree{Kind: api.Dir, Names: []string{rowA}, Kids: []api.Tree{file(rowA), file(rowA)}}, api.ErrForm},
		{"a long link", dir("a", file(rowA), "b", link(strings.Repeat(rowA, 32))), api.ErrLong},
		{"a long file", file(rowA + strings.Repeat("x", api.MaxFile-31)), api.ErrLong},
		{"an endless tree", endless(), api.ErrLong},
		{"a deep tree", under(64, file(rowA)), api.ErrLong},
		{"a great tree", wide(65536, file(rowA)), api.ErrLong},
		{"a wrong name", dir("a", file(rowA), rowA+"/", file("")), api.ErrName},
		{"a long name", dir(rowA+strings.Repeat("n", 69), file(rowA)), api.ErrName},
		{"names that fall", dir(rowA, file(rowA), rowB, file("")), api.ErrName},
		{"names alike", dir(rowA, file(rowA), rowA, file("")), api.ErrName},
	}
}

// told is a tree in words, with the room behind the ends of its lists.
func told(t api.Tree) string {
	var b strings.Builder
	fmt.Fprintf(&b, "%d %v %q|%q %q|%q", t.Kind, t.Exec, t.Data, t.Data[len(t.Data):cap(t.Data)], t.Names, t.Names[len(t.Names):cap(t.Names)])
	for _, kid := range t.Kids {
		b.WriteString(" (" + told(kid) + ")")
	}
	fmt.Fprintf(&b, "|%v", t.Kids[len(t.Kids):cap(t.Kids)])
	return b.String()
}

// roomy is a copy of a tree with room behind the ends of all its lists, in which something stands.
func roomy(t api.Tree) api.Tree {
	c := api.Tree{Kind: t.Kind, Exec: t.Exec}
	c.Data = room(t.Data, []byte("room")...)
	c.Names = room(t.Names, "room", rowA)
	for _, kid := range t.Kids {
		c.Kids = append(c.Kids, roomy(kid))
	}
	c.Kids = room(c.Kids, api.Tree{Kind: 77}, api.Tree{Kind: 78})
	return c
}

// room is a copy of a list with something behind its end.
func room[T any](list []T, behind ...T) []T { return slices.Concat(list, behind)[:len(list)] }

func isZero(t api.Tree) bool {
	return t.Kind == 0 && !t.Exec && len(t.Data)+len(t.Names)+len(t.Kids) == 0
}

// span is some memory.
type span struct{ from, to uintptr }

func spanOf[T any](list []T) span {
	var one T
	from := uintptr(unsafe.Pointer(unsafe.SliceData(list)))
	return span{from, from + uintptr(cap(list))*unsafe.Sizeof(one)}
}

func textSpan[T ~string](s T) span {
	from := uintptr(unsafe.Pointer(unsafe.StringData(string(s))))
	return span{from, from + uintptr(len(s))}
}

// spans are the memory of a tree's lists up to the ends of their room, and of its names.
func spans(t api.Tree) []span {
	all := []span{spanOf(t.Data), spanOf(t.Names), spanOf(t.Kids)}
	for i, name := range t.Names {
		all = append(append(all, textSpan(name)), spans(t.Kids[i])...)
	}
	return slices.DeleteFunc(all, func(s span) bool { return s.from == s.to })
}

// pathSpans are the memory of a list of paths, and of these.
func pathSpans(list []api.Path) []span {
	all := []span{spanOf(list)}
	for _, p := range list {
		all = append(all, textSpan(p))
	}
	return slices.DeleteFunc(all, func(s span) bool { return s.from == s.to })
}

// meets tells whether one of some memory is in other memory.
func meets(some, other []span) bool {
	for _, a := range some {
		for _, b := range other {
			if a.from < b.to && b.from < a.to {
				return true
			}
		}
	}
	return false
}

// meetItself tells whether two of some memory share any.
func meetItself(all []span) bool {
	for i := range all {
		if meets(all[i:i+1], all[i+1:]) {
			return true
		}
	}
	return false
}

// rounds is how often something is tried: a tenth of that, if it is to be short.
func rounds(n int) int {
	if testing.Short() {
		return n / 10
	}
	return n
}

func dice() *rand.Rand { return rand.New(rand.NewPCG(6, 1)) }

// someRow is a row of digits; of few of them, rows overlap themselves and one another.
func someRow(r *rand.Rand, few int) string {
	b := make([]byte, 32)
	for i := range b {
		b[i] = alphabet[r.IntN(few)]
	}
	return string(b)
}

// someRows are rows that are likely to overlap: most of them go round in a short row.
func someRows(r *rand.Rand) []string {
	rows := []string{someRow(r, 32), someRow(r, 2)}
	for _, period := range []int{1, 1 + r.IntN(3), 1 + r.IntN(20)} {
		rows = append(rows, strings.Repeat(someRow(r, 2)[:period], 32)[:32])
	}
	last := rows[len(rows)-1]
	return append(rows, last[1:]+last[:1], last[:31]+"z", "z"+last[1:])
}

// someBytes are some rows and pieces of them, one behind the other, with something between.
func someBytes(r *rand.Rand, rows []string) string {
	var b strings.Builder
	for range r.IntN(8) {
		row := rows[r.IntN(len(rows))]
		switch r.IntN(7) {
		case 0:
			b.WriteString(row[r.IntN(32):])
		case 1:
			b.WriteString(row[:r.IntN(32)])
		case 2:
			b.WriteByte("/-eotuEZ\x00\xff 0z"[r.IntN(13)])
		default:
			b.WriteString(row)
		}
	}
	return b.String()
}

// someTree is a tree of at most so many levels.
func someTree(r *rand.Rand, levels int, rows []string) api.Tree {
	switch n := r.IntN(6); {
	case n == 0:
		return link("/" + someBytes(r, rows))
	case n == 1:
		return program(someBytes(r, rows))
	case n == 2 || levels == 1:
		return file(someBytes(r, rows))
	}
	var names []string
	for range r.IntN(4) {
		name := strings.Trim(someBytes(r, rows), ".")
		name = strings.NewReplacer("/", "", "\x00", "").Replace(name)
		names = append(names, (name + "x")[:min(len(name)+1, 100)])
	}
	// Rows alone are names that are likely to meet.
	for range r.IntN(5) {
		names = append(names, rows[r.IntN(len(rows))])
	}
	slices.Sort(names)
	t := dir()
	for _, name := range slices.Compact(names) {
		t.Names = append(t.Names, name)
		t.Kids = append(t.Kids, someTree(r, levels-1, rows))
	}
	return t
}
