package path_test

import (
	"crypto/sha256"
	"encoding/hex"
	"math/big"
	"slices"
	"strings"
	"testing"
	"unsafe"

	"pantry/api"
	"pantry/path"
)

const (
	digits    = "0123456789abcdfghijklmnpqrsvwxyz"
	nameBytes = "0123456789ABCDEFGHIJKLMNOPQRSTUVWXYZabcdefghijklmnopqrstuvwxyz+-._?="
)

// wrongNames are texts that are no names.
func wrongNames() []string {
	return []string{"", ".", "..", ".a", "a/b", "/a", "a b", " a", "a ", "a:b", "a\x00", "a\n", "é", "aé", "\xff", "a\x80", "a,b", "a@1", "a[", "a`", "a{", "a~", "a*", "a!", "a<", "a>", "a\\", strings.Repeat("n", api.MaxName+1), "." + strings.Repeat("n", api.MaxName-1), strings.Repeat("n", 1<<20)}
}

// goodNames are names, the shortest and the longest among them.
func goodNames() []string {
	return []string{"a", "Z", "0", "-", "+", "_", "?", "=", "a.", "a..", "a-1.0", "-.-", "hello-2.12.tar.gz", "+-._?=", strings.Repeat("n", api.MaxName-1), strings.Repeat("n", api.MaxName), "a" + strings.Repeat(".", api.MaxName-1)}
}

// pathOf is the path of a kind, a digest and a name, worked out by Go's own SHA-256 and by divisions.
func pathOf(kind string, h api.Hash, name string) api.Path {
	sum := sha256.Sum256([]byte(kind + ":" + hex.EncodeToString(h[:]) + ":" + name))
	folded := make([]byte, 20)
	for i, b := range sum {
		folded[i%20] ^= b
	}
	slices.Reverse(folded)
	rest, digit, base := new(big.Int).SetBytes(folded), new(big.Int), big.NewInt(32)
	out := make([]byte, 32)
	for i := 31; i >= 0; i-- {
		rest.DivMod(rest, base, digit)
		out[i] = digits[digit.Int64()]
	}
	return api.Path(string(out) + "-" + name)
}

func hashOf(s string) api.Hash { return sha256.Sum256([]byte(s)) }

// refsOf are so many paths, no two of them alike, and not in their order.
func refsOf(n int) []api.Path {
	refs := make([]api.Path, n)
	for i := range refs {
		refs[i] = pathOf("ref", hashOf(strings.Repeat("r", i)), "ref")
	}
	return refs
}

// kindOf is a kind with refs that rise already.
func kindOf(word string, rising ...api.Path) string {
	for _, ref := range rising {
		word += ":" + string(ref)
	}
	return word
}

func mustBe(t *testing.T, what string, got api.Path, e api.Errno, want api.Path) {
	t.Helper()
	if got != want || e != api.OK {
		t.Errorf("%s: %q, %v, want %q", what, got, e, want)
	}
}

func mustRefuse(t *testing.T, what string, got api.Path, e, want api.Errno) {
	t.Helper()
	if got != "" || e != want {
		t.Errorf("%s: %q, %v, want %v", what, got, e, want)
	}
}

func mustNotSplit(t *testing.T, p api.Path) {
	t.Helper()
	if d, n, e := path.Split(p); d != "" || n != "" || e != api.ErrForm {
		t.Errorf("Split(%.150q): %q, %q, %v", p, d, n, e)
	}
}

// adders are the calls that take refs, with the words of their kinds.
func adders() []adder {
	return []adder{{"source", path.Source}, {"text", path.Text}}
}

type adder struct {
	word string
	call func(api.Hash, []api.Path, string) (api.Path, api.Errno)
}

// P3.1
func TestIsName(t *testing.T) {
	for _, s := range goodNames() {
		if !path.IsName(s) {
			t.Errorf("%q is a name", s)
		}
	}
	for _, s := range wrongNames() {
		if path.IsName(s) {
			t.Errorf("%.100q is no name", s)
		}
	}
}

// P3.1: every byte alone, at the beginning, in the middle and at the end.
func TestIsNameOfEveryByte(t *testing.T) {
	for c := range 256 {
		s := string([]byte{byte(c)})
		may := strings.IndexByte(nameBytes, byte(c)) >= 0
		for _, n := range []string{"a" + s, "a" + s + "b", strings.Repeat("a", api.MaxName-1) + s} {
			if path.IsName(n) != may {
				t.Errorf("IsName(%q): %v", n, !may)
			}
		}
		for _, n := range []string{s, s + "a"} {
			if path.IsName(n) != (may && s != ".") {
				t.Errorf("IsName(%q): %v", n, path.IsName(n))
			}
		}
	}
}

// P3.1: all lengths up to beyond the greatest.
func TestIsNameOfAllLengths(t *testing.T) {
	for n := range 300 {
		if got := path.IsName(strings.Repeat("x", n)); got != (n >= 1 && n <= 80) {
			t.Errorf("a name of %d bytes: %v", n, got)
		}
	}
}

// P3.1, P3.2: paths that another program worked out.
func TestKnownPaths(t *testing.T) {
	h := hashOf("abc")
	refs := []api.Path{"sq6082bs5wrmzqjn0csh30l5gg3bjly7-b", "anvbm51sfdngmk45db61b4bljjv5gn9g-a"}
	p, e := path.Make("", api.Hash{}, "a")
	mustBe(t, "Make", p, e, "s60x5hb5vsj6nhyy3nbz3hi53k9fq3lp-a")
	p, e = path.Make("k", h, "n")
	mustBe(t, "Make", p, e, "f4kwnki3rvsan1gigc9yd7jjl3v47c0a-n")
	p, e = path.Source(h, nil, "hello-2.12")
	mustBe(t, "Source", p, e, "79445349p2znr94mglpq3gd0jxgjdhcl-hello-2.12")
	p, e = path.Text(h, nil, "hello-2.12")
	mustBe(t, "Text", p, e, "ldjsl64i1j6wshb6iv8gph1xs3s8s6fd-hello-2.12")
	p, e = path.Source(h, refs, "s")
	mustBe(t, "Source", p, e, "bdpm4pp5lsq51f6arlyqk2b3m3w34zv8-s")
	p, e = path.Text(h, refs, "s")
	mustBe(t, "Text", p, e, "52sl1cv860w6g0b781dip9wjfy9nbhjp-s")
	p, e = path.Fixed(h, "hello-2.12.tar.gz")
	mustBe(t, "Fixed", p, e, "dqqprg44pdjbcdhsmc5rn8al0pvm0xva-hello-2.12.tar.gz")
	p, e = path.Output(h, "out", "hello-2.12")
	mustBe(t, "Output", p, e, "5ay2dip2blxkz3yzmmz8mbahdf9rkdxw-hello-2.12")
	p, e = path.Output(h, "dev", "hello-2.12")
	mustBe(t, "Output", p, e, "ydsl7a75nm0n271l2q3hpy5a1j9k6nas-hello-2.12-dev")
}

// P3.1: kinds may be any texts.
func TestMake(t *testing.T) {
	kinds := []string{"", "k", "source", "output:out", ":", "a b", "\x00\xff", "é", ".", strings.Repeat("kind", 1<<16)}
	for _, kind := range kinds {
		for _, h := range []api.Hash{{}, hashOf(""), hashOf("x")} {
			for _, name := range goodNames() {
				p, e := path.Make(kind, h, name)
				mustBe(t, "Make", p, e, pathOf(kind, h, name))
			}
			for _, name := range wrongNames() {
				p, e := path.Make(kind, h, name)
				mustRefuse(t, "Make", p, e, api.ErrName)
			}
		}
	}
}

// P3.1
func TestSplit(t *testing.T) {
	rows := []string{strings.Repeat("0", 32), strings.Repeat("z", 32), digits, "f4kwnki3rvsan1gigc9yd7jjl3v47c0a"}
	for _, row := range rows {
		for _, name := range goodNames() {
			if d, n, e := path.Split(api.Path(row + "-" + name)); d != row || n != name || e != api.OK {
				t.Errorf("Split of %q and %q: %q, %q, %v", row, name, d, n, e)
			}
		}
		for _, name := range wrongNames() {
			mustNotSplit(t, api.Path(row+"-"+name))
		}
	}
}

// P3.1: paths that end early, or that have too few or too many digits.
func TestSplitRefusesLengths(t *testing.T) {
	whole := digits + "-a"
	for n := range len(whole) {
		mustNotSplit(t, api.Path(whole[:n]))
		mustNotSplit(t, api.Path(strings.Repeat("0", n)))
		mustNotSplit(t, api.Path(strings.Repeat("-", n)))
	}
	for n := range 100 {
		if n == 32 {
			continue
		}
		row := strings.Repeat("0", n)
		mustNotSplit(t, api.Path(row+"-a"))
		mustNotSplit(t, api.Path(row+"-name-of-more-than-thirty-two-bytes-in-all"))
	}
	mustNotSplit(t, api.Path(strings.Repeat("0", 1<<20)))
	mustNotSplit(t, api.Path("/pantry/store/"+whole))
	mustNotSplit(t, api.Path(" "+whole))
	mustNotSplit(t, api.Path(whole+"/bin"))
}

// P3.1: every byte at every place of a path.
func TestSplitOfEveryByte(t *testing.T) {
	whole := []byte(digits + "-ab")
	for place := range whole {
		may := digits
		switch {
		case place == 32:
			may = "-"
		case place == 33:
			may = strings.ReplaceAll(nameBytes, ".", "")
		case place > 33:
			may = nameBytes
		}
		for c := range 256 {
			text := slices.Clone(whole)
			text[place] = byte(c)
			if strings.IndexByte(may, byte(c)) < 0 {
				mustNotSplit(t, api.Path(text))
				continue
			}
			if d, n, e := path.Split(api.Path(text)); d != string(text[:32]) || n != string(text[33:]) || e != api.OK {
				t.Errorf("Split(%q): %q, %q, %v", text, d, n, e)
			}
		}
	}
}

// P3.2: none, one, and many refs.
func TestRefs(t *testing.T) {
	h := hashOf("tree")
	for _, a := range adders() {
		for _, name := range goodNames() {
			for _, refs := range [][]api.Path{nil, {}} {
				p, e := a.call(h, refs, name)
				mustBe(t, a.word, p, e, pathOf(a.word, h, name))
			}
		}
		for _, n := range []int{1, 2, 3, 10, api.MaxRefs - 1, api.MaxRefs} {
			refs := refsOf(n)
			p, e := a.call(h, refs, "n")
			slices.Sort(refs)
			mustBe(t, a.word, p, e, pathOf(kindOf(a.word, refs...), h, "n"))
		}
	}
}

// P3.2, P3.3: all orders of refs whose order is one of bytes, each of them once and several times.
func TestOrderOfRefs(t *testing.T) {
	h := hashOf("tree")
	low, high := strings.Repeat("0", 32), strings.Repeat("0", 31)+"a"
	rising := []api.Path{api.Path(low + "-B"), api.Path(low + "-_"), api.Path(low + "-a"), api.Path(low + "-a-b"), api.Path(high + "-A")}
	for _, a := range adders() {
		want := pathOf(kindOf(a.word, rising...), h, "n")
		for _, refs := range orders(rising) {
			p, e := a.call(h, refs, "n")
			mustBe(t, a.word, p, e, want)
			p, e = a.call(h, slices.Concat(refs, refs[1:4], refs[2:]), "n")
			mustBe(t, a.word, p, e, want)
		}
		p, e := a.call(h, slices.Repeat(rising[2:3], api.MaxRefs), "n")
		mustBe(t, a.word, p, e, pathOf(kindOf(a.word, rising[2]), h, "n"))
	}
}

// orders are all orders of a list.
func orders(list []api.Path) [][]api.Path {
	if len(list) == 0 {
		return [][]api.Path{nil}
	}
	var all [][]api.Path
	for i, first := range list {
		for _, rest := range orders(slices.Delete(slices.Clone(list), i, i+1)) {
			all = append(all, append([]api.Path{first}, rest...))
		}
	}
	return all
}

// P3.2: a ref that is no path, wherever it stands.
func TestRefsThatAreNone(t *testing.T) {
	h := hashOf("tree")
	wrong := []api.Path{"", "no", "-", digits, digits + "-", digits + "a", api.Path(digits[1:] + "-a"), digits + "_a", digits + "-.a", api.Path("e" + digits[1:] + "-a"), digits + "-a/b", digits + "-a:b", api.Path(digits + "-" + strings.Repeat("n", api.MaxName+1))}
	for _, a := range adders() {
		for _, ref := range wrong {
			for place := range 4 {
				p, e := a.call(h, slices.Insert(refsOf(3), place, ref), "n")
				mustRefuse(t, a.word, p, e, api.ErrForm)
			}
		}
	}
}

// P3.2: refs are counted as they stand, those that stand twice too.
func TestTooManyRefs(t *testing.T) {
	for _, a := range adders() {
		for _, n := range []int{api.MaxRefs + 1, api.MaxRefs + 2, 2 * api.MaxRefs} {
			p, e := a.call(api.Hash{}, refsOf(n), "n")
			mustRefuse(t, a.word, p, e, api.ErrLong)
			p, e = a.call(api.Hash{}, slices.Repeat(refsOf(1), n), "n")
			mustRefuse(t, a.word, p, e, api.ErrLong)
		}
	}
}

// P3.2: a wrong name is told ahead of a wrong ref, a wrong ref ahead of too many.
func TestOrderOfErrors(t *testing.T) {
	many := refsOf(api.MaxRefs + 1)
	wrong := []api.Path{"no"}
	for _, a := range adders() {
		for _, name := range wrongNames() {
			for _, refs := range [][]api.Path{nil, refsOf(2), wrong, many, slices.Concat(wrong, many), slices.Concat(many, wrong)} {
				p, e := a.call(api.Hash{}, refs, name)
				mustRefuse(t, a.word, p, e, api.ErrName)
			}
		}
		for _, refs := range [][]api.Path{slices.Concat(wrong, many), slices.Concat(many, wrong), slices.Insert(slices.Clone(many), api.MaxRefs, wrong...)} {
			p, e := a.call(api.Hash{}, refs, "n")
			mustRefuse(t, a.word, p, e, api.ErrForm)
		}
	}
}

// P3.2
func TestFixed(t *testing.T) {
	h := hashOf("fixed")
	for _, name := range goodNames() {
		p, e := path.Fixed(h, name)
		mustBe(t, "Fixed", p, e, pathOf("fixed", h, name))
	}
	for _, name := range wrongNames() {
		p, e := path.Fixed(h, name)
		mustRefuse(t, "Fixed", p, e, api.ErrName)
	}
}

// P3.2: an output's name stands behind the name, but for the one that is `out`.
func TestOutput(t *testing.T) {
	h := hashOf("drv")
	for _, name := range goodNames() {
		p, e := path.Output(h, "out", name)
		mustBe(t, "Output", p, e, pathOf("output:out", h, name))
	}
	for _, out := range []string{"dev", "o", "ou", "outs", "Out", "OUT", "out-", "-out", "out.", "?", "a-1.0", "+-._?="} {
		for _, name := range []string{"x", "out", "a-1.0", "a.", "-"} {
			p, e := path.Output(h, out, name)
			mustBe(t, "Output", p, e, pathOf("output:"+out, h, name+"-"+out))
		}
	}
}

// P3.2: a name with an output's name behind it has at most MaxName bytes.
func TestLongOutputs(t *testing.T) {
	h := hashOf("drv")
	for out := 1; out <= api.MaxName; out++ {
		for name := 1; name <= api.MaxName; name++ {
			o, n := strings.Repeat("o", out), strings.Repeat("n", name)
			p, e := path.Output(h, o, n)
			if name+1+out <= api.MaxName {
				mustBe(t, "Output", p, e, pathOf("output:"+o, h, n+"-"+o))
			} else {
				mustRefuse(t, "Output", p, e, api.ErrName)
			}
		}
	}
	name := strings.Repeat("n", api.MaxName-3)
	p, e := path.Output(h, "out", name)
	mustBe(t, "Output", p, e, pathOf("output:out", h, name))
	p, e = path.Output(h, "dev", name)
	mustRefuse(t, "Output", p, e, api.ErrName)
}

// P3.2: each of the two is a name by itself, though they may be one together.
func TestOutputsThatAreNone(t *testing.T) {
	for _, wrong := range wrongNames() {
		for _, other := range append(wrongNames(), "out", "dev", "x") {
			p, e := path.Output(api.Hash{}, wrong, other)
			mustRefuse(t, "Output", p, e, api.ErrName)
			p, e = path.Output(api.Hash{}, other, wrong)
			mustRefuse(t, "Output", p, e, api.ErrName)
		}
	}
}

// P3.3
func TestSplitTellsTheName(t *testing.T) {
	h := hashOf("x")
	tellsName := func(p api.Path, e api.Errno, name string) {
		t.Helper()
		d, n, e2 := path.Split(p)
		if e != api.OK || e2 != api.OK || n != name || api.Path(d+"-"+n) != p {
			t.Errorf("%q, %v: %q, %q, %v, want the name %q", p, e, d, n, e2, name)
		}
	}
	for _, name := range goodNames() {
		p, e := path.Make("k", h, name)
		tellsName(p, e, name)
		p, e = path.Source(h, []api.Path{p}, name)
		tellsName(p, e, name)
		p, e = path.Text(h, []api.Path{p}, name)
		tellsName(p, e, name)
		p, e = path.Fixed(h, name)
		tellsName(p, e, name)
		p, e = path.Output(h, "out", name)
		tellsName(p, e, name)
	}
	p, e := path.Output(h, "dev", "x")
	tellsName(p, e, "x-dev")
}

// P3.3: neither the refs nor the room behind them change, and an answer stays when they do.
func TestRefsAreNotKept(t *testing.T) {
	for _, a := range adders() {
		room := slices.Concat(refsOf(9), refsOf(9))
		before := slices.Clone(room)
		first, e := a.call(api.Hash{}, room[:12], "n")
		kept := api.Path(strings.Clone(string(first)))
		if !slices.Equal(room, before) {
			t.Error(a.word, "changed what it was given")
		}
		clear(room)
		second, e2 := a.call(api.Hash{}, before[:12], "n")
		if first != kept || second != kept || e != api.OK || e2 != api.OK {
			t.Errorf("%s: %q, %v, then %q, %v", a.word, first, e, second, e2)
		}
	}
}

// P3.3, W6: what Split answers is no piece of the path.
func TestSplitAnswersNewMemory(t *testing.T) {
	p := pathOf("k", api.Hash{}, "name")
	d, n, _ := path.Split(p)
	begin := uintptr(unsafe.Pointer(unsafe.StringData(string(p))))
	for _, s := range []string{d, n} {
		at := uintptr(unsafe.Pointer(unsafe.StringData(s)))
		if at >= begin && at < begin+uintptr(len(p)) {
			t.Errorf("%q is a piece of the path", s)
		}
	}
}
