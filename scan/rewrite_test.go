package scan_test

import (
	"fmt"
	"strings"
	"testing"

	"pantry/api"
	"pantry/scan"
)

// pathOf is a path of a row.
func pathOf(row string) api.Path { return api.Path(row + "-of-it") }

// mustRewrite asks that s becomes want, so often.
func mustRewrite(t *testing.T, what, s string, from, to api.Path, want string, times int) {
	t.Helper()
	if b, n, e := scan.Rewrite([]byte(s), from, to); string(b) != want || n != times || e != api.OK {
		t.Errorf("Rewrite of %s, %.300q, from %q to %q: %.300q, %d, %v, want %.300q, %d", what, s, from, to, b, n, e, want, times)
	}
}

// mustNotRewrite asks that it is refused.
func mustNotRewrite(t *testing.T, what, s string, from, to api.Path) {
	t.Helper()
	if b, n, e := scan.Rewrite([]byte(s), from, to); len(b) > 0 || n != 0 || e != api.ErrForm {
		t.Errorf("Rewrite of %s, from %.100q to %.100q: %.100q, %d, %v", what, from, to, b, n, e)
	}
}

// P6.2: the chapter's example.
func TestExampleOfRewrite(t *testing.T) {
	p, q := api.Path(rowA+"-n"), api.Path(rowB+"-n")
	mustRewrite(t, "x and p", "x"+string(p), p, q, "x"+string(q), 1)
}

// P6.2: at the very beginning, at the very end, between, whatever stands around.
func TestRewriteAtAllPlaces(t *testing.T) {
	for ahead := range 70 {
		for behind := range 70 {
			for _, around := range []string{"/", "0", "\x00", "\xff"} {
				head, tail := strings.Repeat(around, ahead), strings.Repeat(around, behind)
				mustRewrite(t, "one", head+rowA+tail, pathA, pathB, head+rowB+tail, 1)
			}
		}
	}
	for _, between := range []string{"", "/", "0", rowC, rowA[:31], rowA[1:], rowB} {
		s := strings.Join([]string{rowA, rowA, rowA}, between)
		mustRewrite(t, "three", s, pathA, pathB, strings.ReplaceAll(s, rowA, rowB), 3)
		mustRewrite(t, "none", s, pathOf(strings.Repeat("w", 32)), pathB, s, 0)
	}
}

// P6.2: names do not count, neither in bytes nor of from and to.
func TestNamesDoNotCount(t *testing.T) {
	for _, from := range goodPaths(rowA) {
		for _, to := range goodPaths(rowB) {
			mustRewrite(t, "another name", "/"+rowA+"-other/", from, to, "/"+rowB+"-other/", 1)
			mustRewrite(t, "a name alone", "hello-2.12 of-it lib", from, to, "hello-2.12 of-it lib", 0)
		}
	}
}

// P6.2: digits of which one is another byte stay.
func TestRewriteOfEveryByte(t *testing.T) {
	for place := range 32 {
		for c := range 256 {
			s := []byte(rowA)
			s[place] = byte(c)
			want, times := string(s), 0
			if string(s) == rowA {
				want, times = rowB, 1
			}
			mustRewrite(t, "a byte", string(s), pathA, pathB, want, times)
		}
		mustRewrite(t, "the beginning alone", rowA[:place], pathA, pathB, rowA[:place], 0)
		mustRewrite(t, "the end alone", rowA[32-place:], pathA, pathB, rowA[32-place:], 0)
	}
}

// P6.2, W5
func TestRewriteOfNothing(t *testing.T) {
	mustRewrite(t, "nothing", "", pathA, pathB, "", 0)
	if b, n, e := scan.Rewrite(nil, pathA, pathB); len(b) > 0 || n != 0 || e != api.OK {
		t.Errorf("%q, %d, %v", b, n, e)
	}
}

// P6.2: from the beginning, and on from behind what was replaced.
func TestRewriteOfRowsThatOverlap(t *testing.T) {
	noughts, ones := strings.Repeat("0", 32), strings.Repeat("1", 32)
	for n := range 200 {
		s := strings.Repeat("0", n)
		want := strings.Repeat(ones, n/32) + noughts[:n%32]
		mustRewrite(t, "noughts", s, pathOf(noughts), pathOf(ones), want, n/32)
		mustRewrite(t, "noughts behind another digit", "2"+s, pathOf(noughts), pathOf(ones), "2"+want, n/32)
	}
	for period := 1; period < 32; period++ {
		row := strings.Repeat(rowA[:period], 32)[:32]
		s := strings.Repeat(rowA[:period], 100)
		want, times := wantRewrite(s, row, ones)
		mustRewrite(t, "a row that overlaps itself", s, pathOf(row), pathOf(ones), want, times)
		// One row more begins inside the first one, and ends behind it.
		two := row[:period] + row
		mustRewrite(t, "two that overlap", two, pathOf(row), pathOf(ones), ones+two[32:], 1)
	}
}

// P6.2: digits that come to stand there by what was laid are not replaced.
func TestRewriteDoesNotGoBack(t *testing.T) {
	noughts := strings.Repeat("0", 32)
	first, last := "1"+noughts[1:], noughts[1:]+"1"
	mustRewrite(t, "digits that begin in what was laid", noughts+"0", pathOf(noughts), pathOf(first), first+"0", 1)
	mustRewrite(t, "digits that begin in what was laid", noughts+"00000", pathOf(noughts), pathOf(first), first+"00000", 1)
	mustRewrite(t, "digits that end in what was laid", "1"+first, pathOf(first), pathOf(noughts), "1"+noughts, 1)
	mustRewrite(t, "digits between two that were laid", noughts+noughts, pathOf(noughts), pathOf(last), last+last, 2)
	mustRewrite(t, "what was laid between two", first+"0"+first, pathOf(first), pathOf(last), last+"0"+last, 2)
}

// P6.2: from and to that are the same, or have the same digits.
func TestRewriteToItself(t *testing.T) {
	s := "x" + rowA + rowA + rowA[1:] + rowB
	mustRewrite(t, "itself", s, pathA, pathA, s, 2)
	mustRewrite(t, "its twin", s, pathA, pathOf(rowA), s, 2)
	noughts := strings.Repeat("0", 32)
	mustRewrite(t, "noughts", noughts+noughts+"000", pathOf(noughts), pathOf(noughts), noughts+noughts+"000", 2)
}

// P6.2: what is no path, as from, as to, and as both, whatever the bytes are.
func TestRewriteRefusesWhatIsNoPath(t *testing.T) {
	for _, w := range wrongPaths() {
		for _, s := range []string{"", "x", rowA, string(w[:min(len(w), 100)])} {
			mustNotRewrite(t, "from none", s, w, pathB)
			mustNotRewrite(t, "to none", s, pathA, w)
			mustNotRewrite(t, "to none, where nothing stands", s, pathC, w)
			mustNotRewrite(t, "from and to none", s, w, w)
		}
	}
}

// P6.2: against what is gone through byte by byte.
func TestSomeRewrites(t *testing.T) {
	r := dice()
	counts := map[string]int{}
	for range rounds(50000) {
		rows := someRows(r)
		from, to := rows[r.IntN(len(rows))], rows[r.IntN(len(rows))]
		s := someBytes(r, rows)
		want, times := wantRewrite(s, from, to)
		mustRewrite(t, "some bytes", s, pathOf(from), pathOf(to), want, times)
		counts[fmt.Sprint(min(times, 3), " times")]++
		if times != allPlaces(s, from) {
			counts["overlaps"]++
		}
		if t.Failed() {
			t.FailNow()
		}
	}
	for _, what := range []string{"0 times", "1 times", "2 times", "3 times", "overlaps"} {
		if counts[what] < rounds(100) {
			t.Errorf("%s: met %d times", what, counts[what])
		}
	}
}

// allPlaces is at how many places a row stands, those that overlap too.
func allPlaces(s, row string) int {
	n := 0
	for i := range len(s) {
		if strings.HasPrefix(s[i:], row) {
			n++
		}
	}
	return n
}

// P6.2: many bytes.
func TestRewriteOfManyBytes(t *testing.T) {
	n := rounds(1 << 20)
	mustRewrite(t, "many rows", strings.Repeat(rowA, n), pathA, pathB, strings.Repeat(rowB, n), n)
	mustRewrite(t, "many beginnings", strings.Repeat(rowA[:31], n), pathA, pathB, strings.Repeat(rowA[:31], n), 0)
	last := strings.Repeat("0", 31) + "1"
	mustRewrite(t, "many noughts", strings.Repeat("0", n), pathOf(last), pathA, strings.Repeat("0", n), 0)
}
