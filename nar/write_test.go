package nar_test

import (
	"bytes"
	"crypto/sha256"
	"fmt"
	"strings"
	"sync"
	"testing"

	"pantry/api"
	"pantry/digest"
	"pantry/nar"
	"pantry/tree"
)

// mustWrite asks that Encode and Hash tell these bytes of a tree.
func mustWrite(t *testing.T, what string, x api.Tree, want []byte) {
	t.Helper()
	b, e := nar.Encode(x)
	if e != api.OK || !bytes.Equal(b, want) {
		t.Errorf("Encode of %s: %d bytes, %v, want %d: %.500q, want %.500q", what, len(b), e, len(want), b, want)
	}
	if h, n, e := nar.Hash(x); e != api.OK || n != len(want) || h != api.Hash(sha256.Sum256(want)) {
		t.Errorf("Hash of %s: %x, %d, %v, want %x, %d", what, h, n, e, sha256.Sum256(want), len(want))
	}
}

func mustNotWrite(t *testing.T, what string, x api.Tree, want api.Errno) {
	t.Helper()
	if b, e := nar.Encode(x); e != want || len(b) > 0 {
		t.Errorf("Encode of %s: %d bytes, %v, want %v", what, len(b), e, want)
	}
	if h, n, e := nar.Hash(x); e != want || n != 0 || h != (api.Hash{}) {
		t.Errorf("Hash of %s: %x, %d, %v, want %v", what, h, n, e, want)
	}
}

// P5.1, P5.2: the chapter's examples.
func TestExamples(t *testing.T) {
	b, e := nar.Encode(file("a"))
	if e != api.OK || len(b) != 120 {
		t.Fatalf("%d bytes, %v", len(b), e)
	}
	mustNotRead(t, "without its last byte", b[:119], api.ErrShort)
	if x, e := nar.Decode(append(b, 0)); e != api.ErrForm || !isZero(x) {
		t.Errorf("with one more: %v", e)
	}
}

// P5.1: byte by byte.
func TestBytesOfAFile(t *testing.T) {
	mustWrite(t, "a file", file("a"), []byte(""+
		"\x0d\x00\x00\x00\x00\x00\x00\x00nix-archive-1\x00\x00\x00"+
		"\x01\x00\x00\x00\x00\x00\x00\x00(\x00\x00\x00\x00\x00\x00\x00"+
		"\x04\x00\x00\x00\x00\x00\x00\x00type\x00\x00\x00\x00"+
		"\x07\x00\x00\x00\x00\x00\x00\x00regular\x00"+
		"\x08\x00\x00\x00\x00\x00\x00\x00contents"+
		"\x01\x00\x00\x00\x00\x00\x00\x00a\x00\x00\x00\x00\x00\x00\x00"+
		"\x01\x00\x00\x00\x00\x00\x00\x00)\x00\x00\x00\x00\x00\x00\x00"))
}

// P5.1
func TestTextsOfTrees(t *testing.T) {
	for _, c := range []struct {
		what string
		t    api.Tree
		line string
	}{
		{"an empty file", file(""), "nix-archive-1 ( type regular contents _ )"},
		{"a program", program("run"), "nix-archive-1 ( type regular executable _ contents run )"},
		{"an empty program", program(""), "nix-archive-1 ( type regular executable _ contents _ )"},
		{"a link", link("../to/it"), "nix-archive-1 ( type symlink target ../to/it )"},
		{"an empty directory", dir(), "nix-archive-1 ( type directory )"},
		{"a directory", dir("l", link("to"), "x", program("")), "nix-archive-1 ( type directory entry ( name l node ( type symlink target to ) ) entry ( name x node ( type regular executable _ contents _ ) ) )"},
		{"directories", dir("a", dir("b", dir(), "c", file("x")), "d", file("y")), "nix-archive-1 ( type directory entry ( name a node ( type directory entry ( name b node ( type directory ) ) entry ( name c node ( type regular contents x ) ) ) ) entry ( name d node ( type regular contents y ) ) )"},
		{"names that are words", dir("(", file(")"), ")", file("("), "entry", link("node"), "name", file("name"), "node", file("entry")), "nix-archive-1 ( type directory entry ( name ( node ( type regular contents ) ) ) entry ( name ) node ( type regular contents ( ) ) entry ( name entry node ( type symlink target node ) ) entry ( name name node ( type regular contents name ) ) entry ( name node node ( type regular contents entry ) ) )"},
	} {
		mustWrite(t, c.what, c.t, words(c.line))
	}
}

// P5.1: written out, so that a fault that the tests' own writer shares is told.
func TestDigestOfAnEmptyDirectory(t *testing.T) {
	h, n, e := nar.Hash(dir())
	if digest.Hex(h) != "a50a5ab6d992f5598edd92105059fae9acfc192981e08bd88534c2167e92526a" || n != 96 || e != api.OK {
		t.Errorf("%s, %d, %v", digest.Hex(h), n, e)
	}
}

// P5.1: a text's bytes are a multiple of eight, whatever its length.
func TestLengthsOfTexts(t *testing.T) {
	for n := range 300 {
		text := strings.Repeat("x", n)
		mustWrite(t, fmt.Sprint("a file of ", n), file(text), textBytes("nix-archive-1", "(", "type", "regular", "contents", text, ")"))
		mustWrite(t, fmt.Sprint("a program of ", n), program(text), textBytes("nix-archive-1", "(", "type", "regular", "executable", "", "contents", text, ")"))
		if n > 0 {
			mustWrite(t, fmt.Sprint("a link of ", n), link(text), textBytes("nix-archive-1", "(", "type", "symlink", "target", text, ")"))
		}
		if n > 0 && n <= 100 {
			mustWrite(t, fmt.Sprint("a name of ", n), dir(text, dir()), textBytes("nix-archive-1", "(", "type", "directory", "entry", "(", "name", text, "node", "(", "type", "directory", ")", ")", ")"))
		}
	}
	for _, n := range []int{1000, 1 << 16, 1<<16 + 1, 1<<20 - 1, 1 << 20} {
		x := file(strings.Repeat("x", n))
		mustWrite(t, fmt.Sprint("a file of ", n), x, treeBytes(x))
	}
	mustWrite(t, "any bytes", file("\x00\xff(\x00"), treeBytes(file("\x00\xff(\x00")))
}

// P5.1, W5: a nil list and an empty one are the same.
func TestEmptyLists(t *testing.T) {
	none, names, kids := []byte{}, []string{}, []api.Tree{}
	mustWrite(t, "a file", api.Tree{Kind: api.File, Data: none, Names: names, Kids: kids}, treeBytes(file("")))
	mustWrite(t, "a link", api.Tree{Kind: api.Link, Data: []byte("x"), Names: names, Kids: kids}, treeBytes(link("x")))
	mustWrite(t, "a directory", api.Tree{Kind: api.Dir, Data: none, Names: names, Kids: kids}, treeBytes(dir()))
}

// P5.1: Check's error, whatever it is.
func TestWhatIsNoTree(t *testing.T) {
	for _, c := range []struct {
		what string
		t    api.Tree
		e    api.Errno
	}{
		{"nothing", api.Tree{}, api.ErrForm},
		{"a kind that is none", api.Tree{Kind: 4, Data: []byte("x")}, api.ErrForm},
		{"a kind below 0", api.Tree{Kind: -1}, api.ErrForm},
		{"a link to nothing", dir("a", api.Tree{Kind: api.Link}), api.ErrForm},
		{"a link with Exec", api.Tree{Kind: api.Link, Exec: true, Data: []byte("x")}, api.ErrForm},
		{"a directory with Exec", api.Tree{Kind: api.Dir, Exec: true}, api.ErrForm},
		{"a directory with data", api.Tree{Kind: api.Dir, Data: []byte("x")}, api.ErrForm},
		{"a file with names", api.Tree{Kind: api.File, Names: []string{"a"}}, api.ErrForm},
		{"more names than kids", api.Tree{Kind: api.Dir, Names: []string{"a", "b"}, Kids: []api.Tree{file("")}}, api.ErrForm},
		{"more kids than names", api.Tree{Kind: api.Dir, Names: []string{"a"}, Kids: []api.Tree{file(""), file("")}}, api.ErrForm},
		{"a long link", dir("a", file(""), "b", link(strings.Repeat("x", 1001))), api.ErrLong},
		{"a long file", file(strings.Repeat("x", api.MaxFile+1)), api.ErrLong},
		{"an endless tree", endless(), api.ErrLong},
		{"a deep tree", under(64, file("")), api.ErrLong},
		{"a deep tree", under(64, dir()), api.ErrLong},
		{"a great tree", wide(65536), api.ErrLong},
		{"a wrong name", dir("a", dir("..", file(""))), api.ErrName},
		{"no name", dir("", file("")), api.ErrName},
		{"a long name", dir(strings.Repeat("n", 101), file("")), api.ErrName},
		{"names that fall", dir("b", file(""), "a", file("")), api.ErrName},
		{"names alike", dir("a", file(""), "a", file("")), api.ErrName},
		{"a name ahead of a kid", dir("b", api.Tree{}, "a", file("")), api.ErrName},
		{"the first kid ahead of the second one", dir("a", link(strings.Repeat("x", 1001)), "b", api.Tree{}), api.ErrLong},
	} {
		mustNotWrite(t, c.what, c.t, c.e)
		if c.t.Kind == api.Dir && c.e != api.ErrLong {
			mustNotWrite(t, c.what+" below", dir("a", file("x"), "b", c.t), c.e)
		}
	}
}

// P5.1: as great and as deep as trees may be.
func TestGreatestTrees(t *testing.T) {
	mustWrite(t, "the deepest tree", under(63, file("x")), treeBytes(under(63, file("x"))))
	mustWrite(t, "the deepest directories", under(63, dir()), treeBytes(under(63, dir())))
	if testing.Short() {
		t.Skip("trees of MaxTree nodes")
	}
	mustWrite(t, "the widest tree", wide(65535), treeBytes(wide(65535)))
}

// P5.1, P5.4: any tree, against another way to write it.
func TestManyTrees(t *testing.T) {
	r := dice()
	for range rounds(3000) {
		x := someTree(r, 5)
		want := treeBytes(x)
		mustWrite(t, "some tree", x, want)
		y, e := nar.Decode(want)
		if e != api.OK || !tree.Same(x, y) {
			t.Fatalf("Decode of Encode: %v, %v, want %v", y, e, x)
		}
	}
}

// P5.4, W6: what is handed in stays, and what is answered is new.
func TestWritingChangesAndKeepsNothing(t *testing.T) {
	for _, x := range append(trees(), file(strings.Repeat("x", 1<<16))) {
		x = roomy(x)
		was := told(x)
		b, _ := nar.Encode(x)
		c, _ := nar.Encode(x)
		nar.Hash(x)
		if told(x) != was {
			t.Errorf("a tree was changed: %s, was %s", told(x), was)
		}
		if meets([]span{spanOf(b)}, append(listSpans(x), spanOf(c))) {
			t.Error("bytes that are answered share memory")
		}
		kept := bytes.Clone(b)
		clear(x.Data)
		clear(x.Names)
		clear(x.Kids)
		clear(c[:cap(c)])
		nar.Encode(house())
		if !bytes.Equal(b, kept) {
			t.Error("what was answered changed")
		}
	}
}

// W2, W6: several may ask one tree and one row of bytes at one time, as they are only read.
func TestManyAskers(t *testing.T) {
	x := roomy(house())
	want := treeBytes(x)
	var group sync.WaitGroup
	for range 16 {
		group.Go(func() {
			b, _ := nar.Encode(x)
			h, n, _ := nar.Hash(x)
			y, _ := nar.Decode(want)
			k, _ := nar.Split(want)
			if !bytes.Equal(b, want) || h != digest.Sum(want) || n != len(want) || !tree.Same(x, y) || k != n {
				t.Error("another answer")
			}
		})
	}
	group.Wait()
}
