package scan_test

import (
	"crypto/sha256"
	"fmt"
	"slices"
	"strings"
	"testing"

	"pantry/api"
	"pantry/digest"
	"pantry/nar"
	"pantry/scan"
	"pantry/tree"
)

// mustModulo asks for the digest of what is hashed in the stead of s.
func mustModulo(t *testing.T, what, s string, self api.Path, hashed string) {
	t.Helper()
	if h, e := scan.Modulo([]byte(s), self); h != api.Hash(sha256.Sum256([]byte(hashed))) || e != api.OK {
		t.Errorf("Modulo of %s, %.300q: %x, %v, want that of %.500q", what, s, h, e, hashed)
	}
}

// P6.3: the digits are bytes 00, and their places stand behind.
func TestModulo(t *testing.T) {
	none := strings.Repeat("\x00", 32)
	for _, c := range []struct{ what, s, hashed string }{
		{"nothing", "", ""},
		{"bytes without digits", "abc", "abc"},
		{"digits alone", rowA, none + "|0"},
		{"at the beginning", rowA + "x", none + "x|0"},
		{"at the end", "x" + rowA, "x" + none + "|1"},
		{"a path", "/" + string(pathA) + "/bin", "/" + none + "-hello-2.12/bin|1"},
		{"two", rowA + rowA, none + none + "|0|32"},
		{"two with something between", "ab" + rowA + "cd" + rowA + "ef", "ab" + none + "cd" + none + "ef|2|36"},
		{"inside a run of digits", "00" + rowA + "00", "00" + none + "00|2"},
		{"other digits", rowB + rowA + rowC, rowB + none + rowC + "|32"},
		{"pieces of digits", rowA[:31] + rowA[1:], rowA[:31] + rowA[1:]},
		{"bytes 00", none, none},
		{"bytes 00 and digits", none + rowA, none + none + "|32"},
		{"places that stand there", none + "|0", none + "|0"},
	} {
		mustModulo(t, c.what, c.s, pathA, c.hashed)
		mustModulo(t, c.what+", of a twin", c.s, pathOf(rowA), c.hashed)
		if h, e := scan.Modulo([]byte(c.s), pathOf(strings.Repeat("w", 32))); h != digest.Sum([]byte(c.s)) || e != api.OK {
			t.Errorf("Modulo of %s, of a path that is not there: %x, %v", c.what, h, e)
		}
	}
	if h, e := scan.Modulo(nil, pathA); h != digest.Sum(nil) || e != api.OK {
		t.Errorf("Modulo of nil: %x, %v", h, e)
	}
}

// P6.3: worked out by another program, so that a fault that the tests share with this one is told.
func TestKnownModulo(t *testing.T) {
	h, e := scan.Modulo([]byte("a"+rowA+"b"+rowA), pathA)
	if digest.Hex(h) != "cb784a89500163ebc64d2168b0a6e8ac912bfb3a70f4362bb64f74dcf8ec54f3" || e != api.OK {
		t.Errorf("%s, %v", digest.Hex(h), e)
	}
}

// P6.3: places of one digit and of many.
func TestPlaces(t *testing.T) {
	none := strings.Repeat("\x00", 32)
	for _, n := range []int{0, 1, 9, 10, 11, 63, 64, 65, 99, 100, 101, 999, 1000, 9999, 10000, 1 << 16, 99999, 100000, 1234567} {
		head := strings.Repeat("/", n)
		mustModulo(t, "one", head+rowA, pathA, fmt.Sprintf("%s%s|%d", head, none, n))
		mustModulo(t, "two", head+rowA+head+rowA+"x", pathA, fmt.Sprintf("%s%s%s%sx|%d|%d", head, none, head, none, n, n+32+n))
	}
	var places strings.Builder
	for i := range 1000 {
		fmt.Fprintf(&places, "|%d", i*33)
	}
	mustModulo(t, "many", strings.Repeat(rowA+"-", 1000), pathA, strings.Repeat(none+"-", 1000)+places.String())
}

// P6.3: as Rewrite finds them, also where digits overlap.
func TestModuloOfRowsThatOverlap(t *testing.T) {
	noughts, none := strings.Repeat("0", 32), strings.Repeat("\x00", 32)
	for n := range 200 {
		want := strings.Repeat(none, n/32) + noughts[:n%32]
		for i := range n / 32 {
			want += fmt.Sprint("|", 32*i)
		}
		mustModulo(t, "noughts", strings.Repeat("0", n), pathOf(noughts), want)
	}
	mustModulo(t, "two that overlap", strings.Repeat("01", 17), pathOf(strings.Repeat("01", 16)), none+"01|0")
}

// P6.3: the same bytes at another place are another digest.
func TestPlacesCount(t *testing.T) {
	none := strings.Repeat("\x00", 32)
	seen := map[api.Hash]string{}
	for _, s := range []string{rowA + none, none + rowA, none + none, rowA + rowA, rowA, none} {
		h, e := scan.Modulo([]byte(s), pathA)
		if other, has := seen[h]; has || e != api.OK {
			t.Errorf("Modulo of %q is that of %q, %v", s, other, e)
		}
		seen[h] = s
	}
}

// P6.3
func TestModuloRefusesWhatIsNoPath(t *testing.T) {
	for _, w := range wrongPaths() {
		for _, s := range []string{"", "x", rowA, string(w[:min(len(w), 100)])} {
			if h, e := scan.Modulo([]byte(s), w); h != (api.Hash{}) || e != api.ErrForm {
				t.Errorf("Modulo of %q, of %.100q: %x, %v", s, w, h, e)
			}
		}
	}
	for _, p := range goodPaths(rowA) {
		mustModulo(t, "a path", "x"+rowA, p, "x"+strings.Repeat("\x00", 32)+"|1")
	}
}

// P6.3: against what is gone through byte by byte.
func TestSomeModulos(t *testing.T) {
	r := dice()
	for range rounds(30000) {
		rows := someRows(r)
		self, s := rows[r.IntN(len(rows))], someBytes(r, rows)
		if h, e := scan.Modulo([]byte(s), pathOf(self)); h != wantModulo(s, self) || e != api.OK {
			t.Fatalf("Modulo of %q, of %q: %x, %v", s, self, h, e)
		}
	}
}

// P6.4: there and back is what it was, with the same digest on both sides, where the digits that were laid stand just there.
func TestThereAndBack(t *testing.T) {
	r := dice()
	counts := map[string]int{}
	for range rounds(50000) {
		rows := someRows(r)
		p, q := rows[r.IntN(len(rows))], rows[r.IntN(len(rows))]
		s := someBytes(r, rows)
		there, n, _ := scan.Rewrite([]byte(s), pathOf(p), pathOf(q))
		if !slices.Equal(wantPlaces(string(there), q), wantPlaces(s, p)) {
			counts["not just there"]++
			continue
		}
		back, m, e := scan.Rewrite(there, pathOf(q), pathOf(p))
		if string(back) != s || m != n || e != api.OK {
			t.Fatalf("%q from %q to %q: %q, and back: %q, %d, %v", s, p, q, there, back, m, e)
		}
		one, _ := scan.Modulo([]byte(s), pathOf(p))
		two, _ := scan.Modulo(there, pathOf(q))
		if one != two {
			t.Fatalf("%q from %q to %q: %q has another digest", s, p, q, there)
		}
		counts[fmt.Sprint("times ", min(n, 3))]++
	}
	for _, what := range []string{"not just there", "times 0", "times 1", "times 2", "times 3"} {
		if counts[what] < rounds(100) {
			t.Errorf("%s: met %d times", what, counts[what])
		}
	}
}

// P6.4: where the digits that are laid stood already, the way back takes these too.
func TestThereAndFurtherBack(t *testing.T) {
	mustRewrite(t, "both", rowA+rowB, pathA, pathB, rowB+rowB, 1)
	mustRewrite(t, "both, back", rowB+rowB, pathB, pathA, rowA+rowA, 2)
}

// P6.4: of a tree likewise, and of its bytes.
func TestTreesThereAndBack(t *testing.T) {
	x := dir("k", dir(), "lib", dir("a-"+rowA, program(rowA+rowA), "l", link("/"+string(pathA))), rowC, file(rowC))
	there, n, e := scan.RewriteTree(x, pathA, pathB)
	if e != api.OK || n != 4 || tree.Same(x, there) {
		t.Fatalf("%s, %d, %v", told(there), n, e)
	}
	mustRewriteTree(t, "what came out", there, pathB, pathA, x, 4)
	one, _ := nar.Encode(x)
	two, _ := nar.Encode(there)
	h, _ := scan.Modulo(one, pathA)
	if g, e := scan.Modulo(two, pathB); g != h || e != api.OK {
		t.Errorf("the digests of a tree's bytes: %x, %x, %v", h, g, e)
	}
}
