package nar_test

import (
	"bytes"
	"encoding/binary"
	"fmt"
	"math/rand/v2"
	"runtime"
	"slices"
	"strings"
	"testing"

	"pantry/api"
	"pantry/nar"
	"pantry/tree"
)

// mustNotRead asks that neither Decode nor Split takes b.
func mustNotRead(t *testing.T, what string, b []byte, want api.Errno) {
	t.Helper()
	if x, e := nar.Decode(b); e != want || !isZero(x) {
		t.Errorf("Decode, %s: kind %d, %v, want %v", what, x.Kind, e, want)
	}
	if n, e := nar.Split(b); e != want || n != 0 {
		t.Errorf("Split, %s: %d, %v, want %v", what, n, e, want)
	}
}

// mustRead asks that b is a tree's bytes, and that Split finds their end whatever stands behind.
func mustRead(t *testing.T, what string, b []byte, want api.Tree) {
	t.Helper()
	x, e := nar.Decode(b)
	if e != api.OK || !tree.Same(x, want) {
		t.Errorf("Decode, %s: kind %d, %v", what, x.Kind, e)
	}
	for _, behind := range []string{"", "\x00", "x", "\x00\x00\x00\x00\x00\x00\x00\x00", "nix-archive-1"} {
		if n, e := nar.Split(append(bytes.Clone(b), behind...)); e != api.OK || n != len(b) {
			t.Errorf("Split, %s, with %q behind: %d, %v, want %d", what, behind, n, e, len(b))
		}
	}
}

// mustBeAsModel holds Decode and Split against another way to work it out, and is Decode's error.
func mustBeAsModel(t *testing.T, what string, b []byte) api.Errno {
	t.Helper()
	want, _, wantErr := wantRead(b, false)
	x, e := nar.Decode(b)
	if e != wantErr || e == api.OK && !tree.Same(x, want) || e != api.OK && !isZero(x) {
		t.Fatalf("Decode, %s: %v, %v, want %v, %v: %.2000q", what, x, e, want, wantErr, b)
	}
	_, size, wantErr := wantRead(b, true)
	if n, e := nar.Split(b); n != size || e != wantErr {
		t.Fatalf("Split, %s: %d, %v, want %d, %v: %.2000q", what, n, e, size, wantErr, b)
	}
	return e
}

// header is the eight bytes of a length.
func header(n uint64) []byte { return binary.LittleEndian.AppendUint64(nil, n) }

// P5.2, P5.3, P5.4: what is written is read.
func TestReadTrees(t *testing.T) {
	for i, x := range trees() {
		mustRead(t, fmt.Sprint("the tree ", i), treeBytes(x), x)
	}
	for n := range 40 {
		text := strings.Repeat("x", n)
		mustRead(t, fmt.Sprint("a file of ", n), treeBytes(file(text)), file(text))
		mustRead(t, fmt.Sprint("a program of ", n), treeBytes(program(text)), program(text))
		mustRead(t, fmt.Sprint("a link of ", n+1), treeBytes(link(text+"y")), link(text+"y"))
		mustRead(t, fmt.Sprint("a name of ", n+1), treeBytes(dir(text+"y", dir())), dir(text+"y", dir()))
	}
	mustRead(t, "names that are words", treeBytes(dir("(", file(")"), ")", file("("), "entry", link("node"))), dir("(", file(")"), ")", file("("), "entry", link("node")))
}

// W5: an answer has no more than its kind has.
func TestFieldsOfAnswers(t *testing.T) {
	for _, want := range trees() {
		x, _ := nar.Decode(treeBytes(want))
		if x.Kind != want.Kind || x.Exec != want.Exec || !bytes.Equal(x.Data, want.Data) || !slices.Equal(x.Names, want.Names) || len(x.Kids) != len(want.Kids) {
			t.Errorf("%v, want %v", x, want)
		}
	}
}

// P5.2: an archive that is cut is short, wherever it is cut, and though the rest stands in the room behind.
func TestCutArchives(t *testing.T) {
	for _, x := range trees() {
		b := treeBytes(x)
		for i := range b {
			mustNotRead(t, fmt.Sprint("cut at ", i), b[:i], api.ErrShort)
			mustNotRead(t, fmt.Sprint("cut off at ", i), bytes.Clone(b[:i]), api.ErrShort)
		}
	}
	mustNotRead(t, "nothing", nil, api.ErrShort)
	mustNotRead(t, "nothing", []byte{}, api.ErrShort)
}

// P5.2, P5.3: what stands behind is told by Decode alone.
func TestWhatStandsBehind(t *testing.T) {
	for _, x := range trees() {
		b := treeBytes(x)
		for _, behind := range [][]byte{{0}, {1}, make([]byte, 7), make([]byte, 8), header(1 << 63), words(")"), words("_"), words("nix-archive-1"), b, bytes.Repeat([]byte{0xff}, 100)} {
			row := append(bytes.Clone(b), behind...)
			if y, e := nar.Decode(row); e != api.ErrForm || !isZero(y) {
				t.Errorf("Decode with %q behind: %v", behind, e)
			}
			if n, e := nar.Split(row); e != api.OK || n != len(b) {
				t.Errorf("Split with %q behind: %d, %v, want %d", behind, n, e, len(b))
			}
		}
	}
}

// P5.3: a row of archives, one by one.
func TestRowOfArchives(t *testing.T) {
	var row []byte
	for _, x := range trees() {
		row = append(row, treeBytes(x)...)
	}
	for i, x := range trees() {
		n, e := nar.Split(row)
		if e != api.OK {
			t.Fatalf("Split of the tree %d: %v", i, e)
		}
		y, e := nar.Decode(row[:n])
		if e != api.OK || !tree.Same(x, y) {
			t.Errorf("Decode of the tree %d: %v, %v", i, y, e)
		}
		row = row[n:]
	}
	if len(row) != 0 {
		t.Errorf("%d bytes are left", len(row))
	}
}

// P5.2: texts that may not stand where they do.
func TestWrongTexts(t *testing.T) {
	for _, line := range []string{
		"nix-archive-2", "nix-archive-", "nix-archive-10", "Nix-archive-1", "_", "(", "nix-archive-1 nix-archive-1",
		"nix-archive-1 _", "nix-archive-1 )", "nix-archive-1 ((", "nix-archive-1 type", "nix-archive-1 [",
		"nix-archive-1 ( kind", "nix-archive-1 ( _", "nix-archive-1 ( )", "nix-archive-1 ( typ", "nix-archive-1 ( types", "nix-archive-1 ( regular",
		"nix-archive-1 ( type file", "nix-archive-1 ( type _", "nix-archive-1 ( type Regular", "nix-archive-1 ( type regula", "nix-archive-1 ( type link", "nix-archive-1 ( type dir", "nix-archive-1 ( type )", "nix-archive-1 ( type executable",
		"nix-archive-1 ( type regular )", "nix-archive-1 ( type regular _", "nix-archive-1 ( type regular target", "nix-archive-1 ( type regular entry", "nix-archive-1 ( type regular content",
		"nix-archive-1 ( type regular executable x", "nix-archive-1 ( type regular executable contents", "nix-archive-1 ( type regular executable )", "nix-archive-1 ( type regular executable _ x", "nix-archive-1 ( type regular executable _ )", "nix-archive-1 ( type regular executable _ executable", "nix-archive-1 ( type regular executable _ _",
		"nix-archive-1 ( type regular contents x x", "nix-archive-1 ( type regular contents x _", "nix-archive-1 ( type regular contents x (", "nix-archive-1 ( type regular contents x contents", "nix-archive-1 ( type regular contents x executable",
		"nix-archive-1 ( type symlink )", "nix-archive-1 ( type symlink contents", "nix-archive-1 ( type symlink executable", "nix-archive-1 ( type symlink _", "nix-archive-1 ( type symlink target x x", "nix-archive-1 ( type symlink target x _", "nix-archive-1 ( type symlink target x target",
		"nix-archive-1 ( type directory (", "nix-archive-1 ( type directory _", "nix-archive-1 ( type directory contents", "nix-archive-1 ( type directory executable", "nix-archive-1 ( type directory name", "nix-archive-1 ( type directory entries",
		"nix-archive-1 ( type directory entry )", "nix-archive-1 ( type directory entry name", "nix-archive-1 ( type directory entry _",
		"nix-archive-1 ( type directory entry ( node", "nix-archive-1 ( type directory entry ( names", "nix-archive-1 ( type directory entry ( _", "nix-archive-1 ( type directory entry ( )",
		"nix-archive-1 ( type directory entry ( name a name", "nix-archive-1 ( type directory entry ( name a (", "nix-archive-1 ( type directory entry ( name a _", "nix-archive-1 ( type directory entry ( name a )",
		"nix-archive-1 ( type directory entry ( name a node type", "nix-archive-1 ( type directory entry ( name a node )", "nix-archive-1 ( type directory entry ( name a node nix-archive-1",
		"nix-archive-1 ( type directory entry ( name a node ( kind", "nix-archive-1 ( type directory entry ( name a node ( type x", "nix-archive-1 ( type directory entry ( name a node ( type regular contents x entry",
		"nix-archive-1 ( type directory entry ( name a node ( type directory ) entry", "nix-archive-1 ( type directory entry ( name a node ( type directory ) _", "nix-archive-1 ( type directory entry ( name a node ( type directory ) node",
		"nix-archive-1 ( type directory entry ( name a node ( type directory ) ) x", "nix-archive-1 ( type directory entry ( name a node ( type directory ) ) (",
	} {
		b := words(line)
		mustNotRead(t, line, b, api.ErrForm)
		mustNotRead(t, line+", more behind", append(b, words(") ) ) )")...), api.ErrForm)
	}
}

// P5.2: at each place of an archive any word, and nothing else, and one more or less.
func TestTextsAtEachPlace(t *testing.T) {
	all := []string{"nix-archive-1", "(", ")", "type", "regular", "symlink", "directory", "executable", "contents", "target", "entry", "name", "node", "", "x", "\x00", "contents\x00", "entr", strings.Repeat("y", 101), strings.Repeat("y", 1001)}
	met := map[api.Errno]int{}
	for _, x := range trees() {
		texts := treeTexts(x)
		for i := range texts {
			for _, text := range all {
				b := textBytes(slices.Concat(texts[:i], []string{text}, texts[i+1:])...)
				met[mustBeAsModel(t, fmt.Sprintf("%q at %d", text, i), b)]++
				b = textBytes(slices.Concat(texts[:i], []string{text}, texts[i:])...)
				met[mustBeAsModel(t, fmt.Sprintf("%q more at %d", text, i), b)]++
			}
			met[mustBeAsModel(t, fmt.Sprint("without ", i), textBytes(slices.Concat(texts[:i], texts[i+1:])...))]++
		}
	}
	for _, e := range []api.Errno{api.OK, api.ErrForm, api.ErrName, api.ErrLong, api.ErrShort} {
		if met[e] == 0 {
			t.Errorf("%v was not met", e)
		}
	}
}

// P5.2: each byte behind a text is 00.
func TestBytesBehindTexts(t *testing.T) {
	b := treeBytes(house())
	at, wrong := 0, 0
	for _, text := range treeTexts(house()) {
		end := at + 8 + (len(text)+7)/8*8
		for i := at + 8 + len(text); i < end; i++ {
			for _, c := range []byte{1, 0x20, 0x80, 0xff} {
				bad := bytes.Clone(b)
				bad[i] = c
				mustNotRead(t, fmt.Sprintf("%x behind %q", c, text), bad, api.ErrForm)
				mustNotRead(t, fmt.Sprintf("%x behind %q, and no more", c, text), bad[:end], api.ErrForm)
				mustNotRead(t, fmt.Sprintf("%x behind %q, and one less", c, text), bad[:end-1], api.ErrShort)
				wrong++
			}
		}
		at = end
	}
	if at != len(b) || wrong < 100 {
		t.Errorf("%d of %d bytes, %d wrong ones", at, len(b), wrong)
	}
}

// P5.2: any byte at each place.
func TestEachByte(t *testing.T) {
	for _, x := range []api.Tree{program("a"), dir("a", file("12345678"), "b", link("a"))} {
		b := treeBytes(x)
		for i, was := range b {
			for c := range 256 {
				b[i] = byte(c)
				mustBeAsModel(t, fmt.Sprintf("%x at %d", c, i), b)
			}
			b[i] = was
		}
	}
}

// P5.2: a length that is too great is told wherever it stands, though its bytes are not there; one that is not is short.
func TestLengthsAtEachPlace(t *testing.T) {
	texts := treeTexts(house())
	for i := range texts {
		ahead := textBytes(texts[:i]...)
		for _, n := range []uint64{1<<21 + 1, 1<<21 + 8, 1 << 22, 1<<31 - 1, 1 << 31, 1<<32 - 1, 1 << 32, 1<<32 + 1, 1 << 40, 1<<63 - 8, 1<<63 - 1, 1 << 63, 1<<63 + 1, 1<<63 + 13, 1<<64 - 16, 1<<64 - 8, 1<<64 - 7, 1<<64 - 1} {
			b := append(bytes.Clone(ahead), header(n)...)
			mustNotRead(t, fmt.Sprintf("the length %d at %d", n, i), b, api.ErrForm)
			mustNotRead(t, fmt.Sprintf("the length %d at %d, one byte less", n, i), b[:len(b)-1], api.ErrShort)
			mustNotRead(t, fmt.Sprintf("the length %d at %d, more behind", n, i), append(b, words(") ) )")...), api.ErrForm)
		}
		for _, n := range []uint64{1 << 10, 1<<21 - 1, 1 << 21} {
			b := append(bytes.Clone(ahead), header(n)...)
			mustNotRead(t, fmt.Sprintf("the length %d at %d", n, i), b, api.ErrShort)
			mustNotRead(t, fmt.Sprintf("the length %d at %d, more behind", n, i), append(b, "(\x01\x02\x03"...), api.ErrShort)
		}
	}
}

// P5.2: texts of 2^21 bytes and of one more, and what Check says of those that are not too long to be read.
func TestLongTexts(t *testing.T) {
	at := func(texts []string, i, n int) []byte {
		texts[i] = strings.Repeat("y", n)
		return textBytes(texts...)
	}
	data := func(n int) []byte { return at(treeTexts(file("")), 5, n) }
	target := func(n int) []byte { return at(treeTexts(link("x")), 5, n) }
	name := func(n int) []byte { return at(treeTexts(dir("a", file(""))), 7, n) }
	for _, c := range []struct {
		what string
		text func(int) []byte
		most int
		e    api.Errno
	}{{"data", data, 1 << 20, api.ErrLong}, {"a target", target, 1000, api.ErrLong}, {"a name", name, 100, api.ErrName}} {
		for _, n := range []int{1, c.most - 1, c.most} {
			if _, e := nar.Decode(c.text(n)); e != api.OK {
				t.Errorf("%s of %d bytes: %v", c.what, n, e)
			}
		}
		for _, n := range []int{c.most + 1, 1<<21 - 1, 1 << 21} {
			mustNotRead(t, fmt.Sprint(c.what, " of ", n), c.text(n), c.e)
			if _, e := nar.Decode(append(c.text(n), 0)); e != api.ErrForm {
				t.Errorf("%s of %d bytes, and more behind: %v", c.what, n, e)
			}
			b := c.text(n)
			mustNotRead(t, fmt.Sprint(c.what, " of ", n, ", cut"), b[:len(b)-1], api.ErrShort)
		}
		for _, n := range []int{1<<21 + 1, 1<<21 + 8, 1 << 22} {
			mustNotRead(t, fmt.Sprint(c.what, " of ", n), c.text(n), api.ErrForm)
			b := c.text(n)
			mustNotRead(t, fmt.Sprint(c.what, " of ", n, ", cut"), b[:len(b)/2], api.ErrForm)
		}
	}
	mustNotRead(t, "a word of 2^21 bytes", at(treeTexts(file("")), 1, 1<<21), api.ErrForm)
	mustNotRead(t, "a link to nothing", words("nix-archive-1 ( type symlink target _ )"), api.ErrForm)
}

// P5.2: names that are none, or do not rise.
func TestWrongNames(t *testing.T) {
	for _, x := range []api.Tree{
		dir("", file("")), dir(".", file("")), dir("..", file("")), dir("/", file("")), dir("a/b", file("")), dir("a\x00", file("")), dir("\x00", file("")), dir(strings.Repeat("n", 101), file("")),
		dir("b", file(""), "a", file("")), dir("a", file(""), "a", file("")), dir("a", file(""), "b", file(""), "B", file("")), dir("é", file(""), "z", file("")), dir("aa", file(""), "a", file("")),
		dir("a", dir("b", dir(), "a", dir()), "b", file("")), under(62, dir("..", file(""))),
	} {
		mustNotRead(t, fmt.Sprintf("%q", x.Names), treeBytes(x), api.ErrName)
	}
}

// deepTexts are those of a tree up to where a node that is so deep would begin.
func deepTexts(deep int) []string {
	texts := []string{"nix-archive-1"}
	for range deep - 1 {
		texts = append(texts, "(", "type", "directory", "entry", "(", "name", "d", "node")
	}
	return texts
}

// P5.2: MaxDeep deep, and one more.
func TestDeepArchives(t *testing.T) {
	for _, bottom := range []api.Tree{file("x"), link("x"), dir()} {
		mustRead(t, "as deep as may be", treeBytes(under(63, bottom)), under(63, bottom))
		for _, n := range []int{64, 65, 1000, 1 << 16} {
			mustNotRead(t, fmt.Sprint("below ", n), treeBytes(under(n, bottom)), api.ErrLong)
		}
		mustNotRead(t, "too deep behind another one", treeBytes(dir("a", under(62, bottom), "b", under(63, bottom))), api.ErrLong)
	}
	begun := textBytes(deepTexts(65)...)
	mustNotRead(t, "up to where it would begin", begun, api.ErrLong)
	mustNotRead(t, "one byte less", begun[:len(begun)-1], api.ErrShort)
	for _, behind := range [][]byte{{0}, words("("), words(")"), words("( kind"), header(1<<21 + 1), header(1 << 63), words("x"), append(header(1), 1)} {
		mustNotRead(t, fmt.Sprintf("and %q behind", behind), append(bytes.Clone(begun), behind...), api.ErrLong)
	}
	begun = textBytes(deepTexts(64)...)
	mustNotRead(t, "up to where the deepest one begins", begun, api.ErrShort)
	mustNotRead(t, "another text there", append(begun, words(")")...), api.ErrForm)
}

// P5.2: MaxTree nodes, and one more.
func TestArchivesOfManyNodes(t *testing.T) {
	if testing.Short() {
		t.Skip("trees of MaxTree nodes")
	}
	mustRead(t, "as many as may be", treeBytes(wide(65535)), wide(65535))
	deep := dir("a", wide(9), "b", under(20, wide(65536-32)))
	mustRead(t, "as many as may be, below", treeBytes(deep), deep)
	for _, x := range []api.Tree{wide(65536), wide(1 << 17), dir("a", wide(65534), "b", file("")), dir("a", file(""), "b", wide(65534))} {
		mustNotRead(t, "more than may be", treeBytes(x), api.ErrLong)
	}
	texts := treeTexts(wide(65535))
	texts = append(texts[:len(texts)-1], "entry", "(", "name", "g", "node")
	begun := textBytes(texts...)
	mustNotRead(t, "up to where it would begin", begun, api.ErrLong)
	mustNotRead(t, "one byte less", begun[:len(begun)-1], api.ErrShort)
	for _, behind := range [][]byte{{0}, words("("), words(")"), header(1 << 63), words("x")} {
		mustNotRead(t, fmt.Sprintf("and %q behind", behind), append(bytes.Clone(begun), behind...), api.ErrLong)
	}
	mustNotRead(t, "no node", textBytes(append(texts[:len(texts)-1], "nodes")...), api.ErrForm)
	texts = treeTexts(wide(65534))
	begun = textBytes(append(texts[:len(texts)-1], "entry", "(", "name", "g", "node")...)
	mustNotRead(t, "up to where the last one begins", begun, api.ErrShort)
	mustNotRead(t, "another text there", append(begun, words(")")...), api.ErrForm)
}

// P5.2: the first one that is read counts, and Check's comes behind all of them.
func TestOrderOfErrors(t *testing.T) {
	const odd = "nix-archive-1 ( type directory entry ( name .. node ( type symlink target _ ) )"
	for _, c := range []struct {
		what  string
		b     []byte
		e, e2 api.Errno // of Decode, and of Split
	}{
		{"a wrong name", words(odd + " )"), api.ErrName, api.ErrName},
		{"a wrong name, and more behind", append(words(odd+" )"), 0), api.ErrForm, api.ErrName},
		{"a wrong name, and cut", words(odd), api.ErrShort, api.ErrShort},
		{"a wrong name, and a wrong text", words(odd + " x"), api.ErrForm, api.ErrForm},
		{"a wrong name, and too deep", textBytes(append(deepTexts(2)[:7], append([]string{"..", "node"}, deepTexts(65)[1:]...)...)...), api.ErrLong, api.ErrLong},
		{"long data, and more behind", append(treeBytes(file(strings.Repeat("y", 1<<20+1))), 1), api.ErrForm, api.ErrLong},
		{"a link to nothing, and more behind", words("nix-archive-1 ( type symlink target _ ) )"), api.ErrForm, api.ErrForm},
		{"the first kid ahead of the second one", treeBytes(dir("a", link(""), "b", link(strings.Repeat("y", 1001)))), api.ErrForm, api.ErrForm},
		{"likewise", treeBytes(dir("a", link(strings.Repeat("y", 1001)), "b", link(""))), api.ErrLong, api.ErrLong},
		{"a name ahead of a kid", treeBytes(dir("b", link(""), "a", file(""))), api.ErrName, api.ErrName},
		{"a wrong text that is not all there", append(words("nix-archive-1 ( type"), append(header(9), "director"...)...), api.ErrShort, api.ErrShort},
		{"a wrong text without what stands behind it", append(words("nix-archive-1"), append(header(1), "x\x00\x00\x00\x00\x00\x00"...)...), api.ErrShort, api.ErrShort},
		{"a wrong text ahead of a short one", append(words("nix-archive-1 ("), append(words("x"), 1, 2, 3)...), api.ErrForm, api.ErrForm},
		{"a wrong text ahead of a long one", append(words("nix-archive-1 x"), header(1<<63)...), api.ErrForm, api.ErrForm},
		{"a long text in the stead of a word", append(words("nix-archive-1 ("), header(1<<21+1)...), api.ErrForm, api.ErrForm},
		{"half a length that is too great", append(words("nix-archive-1 ("), 0xff, 0xff, 0xff, 0xff), api.ErrShort, api.ErrShort},
	} {
		if x, e := nar.Decode(c.b); e != c.e || !isZero(x) {
			t.Errorf("Decode, %s: kind %d, %v, want %v", c.what, x.Kind, e, c.e)
		}
		if n, e := nar.Split(c.b); e != c.e2 || n != 0 {
			t.Errorf("Split, %s: %d, %v, want %v", c.what, n, e, c.e2)
		}
	}
}

// spoilt are an archive's bytes with a fault.
func spoilt(r *rand.Rand, b []byte) []byte {
	i := r.IntN(len(b))
	switch r.IntN(6) {
	case 0:
		return b[:i]
	case 1:
		return append(b, byte(r.UintN(3)))
	case 2:
		b[i] ^= 1 << r.UintN(8)
	case 3:
		b[i] = byte(r.UintN(256))
	case 4:
		return slices.Concat(b[:i/8*8], b[r.IntN(len(b))/8*8:])
	case 5:
		copy(b[i/8*8:], header(r.Uint64()>>r.UintN(64)))
	}
	return b
}

// respelt are a tree's texts with some in another's stead, or moved, or away.
func respelt(r *rand.Rand, texts []string) []string {
	for range 1 + r.IntN(3) {
		i, j := r.IntN(len(texts)), r.IntN(len(texts))
		switch r.IntN(5) {
		case 0:
			texts[i] = texts[j]
		case 1:
			texts[i], texts[j] = texts[j], texts[i]
		case 2:
			texts = slices.Concat(texts[:i], texts[j:])
		case 3:
			texts[i] = someText(r, 0)
		case 4:
			if k := i + 1 + slices.Index(texts[i:], "name"); k > i && k < len(texts) {
				texts[k] = []string{"", "..", "a/b", "m"}[r.IntN(4)]
			}
		}
		if len(texts) == 0 {
			return texts
		}
	}
	return texts
}

// P5.2 to P5.4, P0.8: archives with faults here and there, against another way to work it out.
func TestManyFaults(t *testing.T) {
	r := dice()
	met := map[api.Errno]int{}
	for range rounds(30000) {
		texts := treeTexts(someTree(r, 4))
		if r.IntN(2) == 0 {
			texts = respelt(r, texts)
		}
		b := textBytes(texts...)
		for range r.IntN(3) {
			if len(b) > 0 {
				b = spoilt(r, b)
			}
		}
		met[mustBeAsModel(t, "some faults", b)]++
		if x, e := nar.Decode(b); e == api.OK {
			if again, _ := nar.Encode(x); !bytes.Equal(again, b) {
				t.Fatalf("Encode of Decode: %q, want %q", again, b)
			}
		}
	}
	for _, e := range []api.Errno{api.OK, api.ErrShort, api.ErrForm, api.ErrName} {
		if met[e] < rounds(100) {
			t.Errorf("%v was met %d times", e, met[e])
		}
	}
}

// P0.8: bytes of any kind.
func TestAnyBytes(t *testing.T) {
	r := dice()
	for range rounds(10000) {
		b := []byte(someText(r, r.IntN(200)))
		if r.IntN(2) == 0 {
			b = append(words("nix-archive-1 ( type"), b...)
		}
		mustBeAsModel(t, "any bytes", b)
	}
}

// P5.4, W6: what is handed in stays, with the room behind it; what is answered is new, and no two lists of it share memory.
func TestReadingChangesAndKeepsNothing(t *testing.T) {
	for _, want := range append(trees(), under(63, file("x")), file(strings.Repeat("x", 1<<16))) {
		b := treeBytes(want)
		n := len(b)
		b = append(b, "the room behind"...)[:n]
		was := bytes.Clone(b[:cap(b)])
		x, _ := nar.Decode(b)
		y, _ := nar.Decode(b)
		nar.Split(b)
		if !bytes.Equal(b[:cap(b)], was) {
			t.Errorf("bytes were changed: %q, were %q", b[:cap(b)], was)
		}
		if meets(append(listSpans(x), nameSpans(x)...), append(listSpans(y), spanOf(b))) || meetItself(listSpans(x)) {
			t.Error("what is answered shares memory")
		}
		clear(b[:cap(b)])
		clear(y.Names)
		clear(y.Kids)
		clear(y.Data)
		nar.Decode(treeBytes(house()))
		if !tree.Same(x, want) {
			t.Error("what was answered changed")
		}
	}
}

// P5.4: an answer keeps nothing of what was handed in, not even by a list without an element.
func TestEmptyListsOfAnswers(t *testing.T) {
	b := treeBytes(dir("a", file(""), "b", program("")))
	x, _ := nar.Decode(b)
	for _, kid := range x.Kids {
		if cap(kid.Data) > 0 || kid.Data != nil && meets([]span{{spanOf(kid.Data).from, spanOf(kid.Data).from + 1}}, []span{spanOf(b)}) {
			t.Error("an empty list is one that was handed in")
		}
	}
}

// W1: what is refused is not copied first, and Split copies no Data at all.
func TestReadingCopiesLittle(t *testing.T) {
	x := dir()
	for i := range 32 {
		x.Names, x.Kids = append(x.Names, fmt.Sprintf("%02d", i)), append(x.Kids, file(strings.Repeat("x", 1<<20)))
	}
	b := treeBytes(x)
	var before, behind runtime.MemStats
	runtime.ReadMemStats(&before)
	nar.Split(b)
	nar.Decode(b[:len(b)-1])
	runtime.ReadMemStats(&behind)
	if n := behind.TotalAlloc - before.TotalAlloc; n > 1<<20 {
		t.Errorf("%d bytes were taken", n)
	}
}
