package scan_test

import (
	"bytes"
	"fmt"
	"slices"
	"strings"
	"sync"
	"testing"
	"unsafe"

	"pantry/api"
	"pantry/scan"
)

// P6.5, W6: what is handed in stays, with the room behind it.
func TestArgumentsStay(t *testing.T) {
	for _, text := range []string{"", "x", rowA, "x" + rowA + rowB + rowA} {
		b := room([]byte(text), []byte(rowA+rowC)...)
		of := room([]api.Path{pathC, pathA, "none", pathB, pathA, pathOf(rowA)}, "room", pathA)
		x := roomy(dir("a", file(text), "m", house(), rowC, link("/"+text)))
		tell := func() string { return fmt.Sprintf("%q %q %s", b[:cap(b)], of[:cap(of)], told(x)) }
		was := tell()
		scan.Refs(b, of)
		scan.TreeRefs(x, of)
		scan.Rewrite(b, pathA, pathB)
		scan.Rewrite(b, "none", pathB)
		scan.RewriteTree(x, pathA, pathB)
		scan.RewriteTree(x, pathA, pathC)
		scan.RewriteTree(x, pathA, "none")
		scan.Modulo(b, pathA)
		if now := tell(); now != was {
			t.Errorf("what was handed in is %s, was %s", now, was)
		}
	}
}

// P6.5: the room behind the end of what is handed in is not looked at.
func TestRoomIsNotLookedAt(t *testing.T) {
	b := []byte(rowA + rowB)
	of := []api.Path{pathB, pathA, pathC}
	for n := range 32 {
		if got := scan.Refs(b[:n], of); len(got) > 0 {
			t.Errorf("Refs of %d bytes: %q", n, got)
		}
		if got := scan.TreeRefs(api.Tree{Kind: api.File, Data: b[:n]}, of); len(got) > 0 {
			t.Errorf("TreeRefs of %d bytes: %q", n, got)
		}
		if got, times, e := scan.Rewrite(b[:n], pathA, pathB); string(got) != rowA[:n] || times != 0 || e != api.OK {
			t.Errorf("Rewrite of %d bytes: %q, %d, %v", n, got, times, e)
		}
	}
	if got := scan.Refs(b, of[:1]); !slices.Equal(got, []api.Path{pathB}) {
		t.Errorf("Refs of one: %q", got)
	}
}

// P6.5, W6: what is answered shares nothing with what was handed in, nor with another answer, nor with itself.
func TestAnswersAreNewMemory(t *testing.T) {
	for _, text := range []string{"", "x", rowC, "x" + rowA + rowB + rowA} {
		b := room([]byte(text), []byte(rowA)...)
		of := room([]api.Path{pathC, pathA, pathB, pathOf(rowA)}, pathA)
		x := roomy(dir("a", file(text), "b", dir("c", file("x")), "m", house(), rowC, link("/"+text)))
		given := append(append(spans(x), pathSpans(of)...), spanOf(b))
		var all []span
		for range 2 {
			all = append(all, pathSpans(scan.Refs(b, of))...)
			all = append(all, pathSpans(scan.TreeRefs(x, of))...)
			for _, to := range []api.Path{pathA, pathB} {
				y, _, e := scan.Rewrite(b, pathA, to)
				z, _, f := scan.RewriteTree(x, pathA, to)
				if e != api.OK || f != api.OK {
					t.Fatal(e, f)
				}
				all = append(append(all, spanOf(y)), spans(z)...)
			}
		}
		all = slices.DeleteFunc(all, func(s span) bool { return s.from == s.to })
		if meets(all, given) {
			t.Errorf("%q: an answer shares memory with what was handed in", text)
		}
		if meetItself(all) {
			t.Errorf("%q: answers share memory", text)
		}
	}
}

// P6.5, W6: parts that are one in what is handed in are not so in what is answered; empty lists are nothing's.
func TestSharedParts(t *testing.T) {
	data := []byte("/" + rowA + "/" + rowA)
	leaf := api.Tree{Kind: api.File, Data: data}
	kids := []api.Tree{leaf, {Kind: api.Link, Data: data[:2]}, {Kind: api.Dir, Data: data[:0], Names: make([]string, 0, 3), Kids: make([]api.Tree, 0, 3)}}
	names := []string{"a", "b", "c"}
	part := api.Tree{Kind: api.Dir, Names: names, Kids: kids}
	x := api.Tree{Kind: api.Dir, Names: names, Kids: []api.Tree{part, part, leaf}}
	y, n, e := scan.RewriteTree(x, pathA, pathB)
	if e != api.OK || n != 6 {
		t.Fatal(n, e)
	}
	if meets(spans(y), spans(x)) || meetItself(spans(y)) {
		t.Error("RewriteTree shares memory")
	}
	// A list without an element could still hold on to what it was cut from.
	c := y.Kids[0].Kids[2]
	if holds(c.Data, data) || holds(c.Names, kids[2].Names) || holds(c.Kids, kids[2].Kids) {
		t.Error("an empty list is one that was handed in")
	}
	if b, _, _ := scan.Rewrite(data[:0], pathA, pathB); holds(b, data) {
		t.Error("no bytes are those that were handed in")
	}
}

// holds tells whether a list begins where another one does.
func holds[T any](list, other []T) bool {
	return list != nil && unsafe.SliceData(list) == unsafe.SliceData(other)
}

// P6.5, W7: what was answered stays, whatever becomes of what was handed in.
func TestAnswersStay(t *testing.T) {
	b, of, x := []byte("x"+rowA+rowC), []api.Path{pathA, pathB, pathC}, house()
	refs, treeRefs := scan.Refs(b, of), scan.TreeRefs(x, of)
	rewritten, _, _ := scan.Rewrite(b, pathC, pathB)
	whole, _, _ := scan.RewriteTree(x, pathA, pathB)
	tell := func() string { return fmt.Sprintf("%q %q %q %s", refs, treeRefs, rewritten, told(whole)) }
	was := tell()
	clear(b)
	clear(of)
	x.Kids[0].Kids[0].Data[0], x.Kids[0].Names[0], x.Kids[1] = 'X', "X", file("X")
	again, _, _ := scan.RewriteTree(whole, pathB, pathC)
	again.Kids[0].Names[0] = "X"
	scan.Rewrite(rewritten, pathB, pathA)
	if now := tell(); now != was {
		t.Errorf("what was answered is %s, was %s", now, was)
	}
}

// W2, W6: several may ask at one time, as what is handed in is only read.
func TestManyAskers(t *testing.T) {
	b := room([]byte(strings.Repeat("x"+rowA+rowC, 100)), []byte(rowB)...)
	of := room([]api.Path{pathC, pathB, pathA}, "room")
	x := roomy(house())
	tell := func() string {
		y, n, e := scan.Rewrite(b, pathA, pathB)
		z, m, f := scan.RewriteTree(x, pathA, pathB)
		h, g := scan.Modulo(b, pathC)
		return fmt.Sprintf("%q %q %q %d %v %v %d %v %x %v", scan.Refs(b, of), scan.TreeRefs(x, of), y, n, e, nodesOf(z), m, f, h, g)
	}
	want := tell()
	answers := make([]string, 16)
	var group sync.WaitGroup
	for i := range answers {
		group.Go(func() { answers[i] = tell() })
	}
	group.Wait()
	for _, got := range answers {
		if got != want {
			t.Errorf("%s, want %s", got, want)
		}
	}
}

// W1: bytes and texts of any kind.
func TestAnyBytes(t *testing.T) {
	r := dice()
	for range rounds(20000) {
		b := make([]byte, r.IntN(100))
		for i := range b {
			b[i] = byte(r.UintN(256))
		}
		if len(b) > 33 && r.IntN(2) == 0 {
			copy(b, rowA+"-n")
		}
		p, was := api.Path(b), slices.Clone(b)
		scan.Refs(b, []api.Path{p, pathA})
		scan.TreeRefs(api.Tree{Kind: r.IntN(5), Data: b, Names: []string{string(b)}}, []api.Path{p})
		_, _, e := scan.Rewrite(b, p, pathA)
		_, _, f := scan.RewriteTree(api.Tree{Kind: api.File, Data: b}, pathA, p)
		_, g := scan.Modulo(b, p)
		want := api.ErrForm
		if pathForm.MatchString(string(p)) {
			want = api.OK
		}
		if e != want || f != want || g != want {
			t.Fatalf("%q: %v, %v, %v, want %v", b, e, f, g, want)
		}
		if !bytes.Equal(b, was) {
			t.Fatalf("%q was changed to %q", was, b)
		}
	}
}
