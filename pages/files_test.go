package pages_test

import (
	"fmt"
	"slices"
	"strings"
	"testing"

	"pantry/api"
	"pantry/fs"
	"pantry/pages"
)

// damaged asks of a FS with other bytes in its files that nothing panics, and that what is told goes on from there.
func damaged(t *testing.T, f *fs.FS) {
	t.Helper()
	ok(t, f.Sync())
	before := state(f)
	left := told(t, opened(t, f))
	if state(f) != before {
		t.Error("Open changed something")
	}
	if left.least() < most {
		goesOn(t, f, left)
	}
}

// several is a FS in which a pager has files of all kinds: own ones, second ones, and a log.
func several(t *testing.T) map[string]*fs.FS {
	t.Helper()
	small, p := filled(t, 1<<24, many(70, 5)...)
	for range 2 {
		for n := range 70 {
			ok(t, p.Put(n, []byte(sized(50))))
		}
		ok(t, p.Commit())
	}
	wide, _ := filled(t, 1<<24, many(1100, 500)...)
	early, q := change{base: small, do: lots}.ready(t)
	early.Fuse(10)
	answers(t, q.Commit(), api.ErrDead)
	early.Crash(10)
	return map[string]*fs.FS{"small": small, "wide": wide, "early": early}
}

// W1, P0.8: any bytes in the files make nothing panic.
func TestOtherBytes(t *testing.T) {
	others := []string{
		"", "x", "\x00", "\x01", "\xff", "\x00\x00", "\x00\x00\x00", "\x00\x00\x00\x00", "\x00\x40\x00\x01", "\x00\x3f\x00\x01",
		"\x00\x00\x02\x01" + sized(512), "\x00\x00\x02\x02" + sized(513), "\x00\x00\xff\xff" + sized(1<<16),
		"\x00\x00\x00\x05abc", strings.Repeat("\x00", 1000), strings.Repeat("\xff", 1000), sized(1 << 20),
	}
	for kind, base := range several(t) {
		names := base.Names("p")[:3]
		if testing.Short() {
			names = names[:2]
		}
		for _, name := range names {
			b, e := base.Read(name)
			ok(t, e)
			own, cut := string(b), len(b)
			if cut > 0 {
				cut = 1
			}
			for _, data := range append(others, own[cut:], own[:len(own)-cut], own+"x", "\xff"+own[cut:]) {
				f := base.Copy()
				ok(t, f.Write(name, []byte(data)))
				damaged(t, f)
			}
			f := base.Copy()
			ok(t, f.Remove(name))
			damaged(t, f)
			if t.Failed() {
				t.Fatalf("%s, %s", kind, name)
			}
		}
	}
}

// W1, P0.8: bytes at random.
func TestRandomBytes(t *testing.T) {
	r := dice()
	bases := several(t)
	for _, kind := range []string{"small", "wide", "early"} {
		names := bases[kind].Names("p")
		for range rounds(100) {
			f := bases[kind].Copy()
			for range 1 + r.IntN(3) {
				name := names[r.IntN(len(names))]
				b, e := f.Read(name)
				ok(t, e)
				if len(b) > 0 {
					b[r.IntN(min(len(b), 20))] = byte(r.IntN(256))
					b[r.IntN(len(b))] ^= byte(r.IntN(256))
					b = b[:len(b)-r.IntN(2)*r.IntN(len(b))]
				}
				ok(t, f.Write(name, b))
			}
			damaged(t, f)
		}
	}
}

// W1, P0.8: a file that is none of the pager's counts as none, and one that is damaged is none of its own.
func TestForeignFiles(t *testing.T) {
	f := disk(t, 1<<20)
	for _, name := range []string{"p", "p-pages-0", "p-pages-1", "p-fresh-0", "p-fresh-7"} {
		ok(t, f.Write(name, []byte("of somebody else")))
	}
	tells(t, opened(t, f), nil)
	goesOn(t, f, nil)
	// A file of pages that ends early, or late, tells none of them.
	f, p := filled(t, 1<<20, many(64, 100)...)
	for range 20 {
		ok(t, p.Put(1, []byte(sized(500))))
		ok(t, p.Commit())
	}
	b, e := f.Read("p-pages-0")
	ok(t, e)
	ok(t, f.Write("p", nil))
	ok(t, f.Write("p-pages-0", b))
	if got := told(t, opened(t, f)); len(got) != 64 {
		t.Errorf("it tells %v", got)
	}
	ok(t, f.Write("p-pages-0", b[:len(b)-1]))
	tells(t, opened(t, f), nil)
	ok(t, f.Write("p-pages-0", append(b, 0)))
	tells(t, opened(t, f), nil)
	// So does one of another sheet.
	ok(t, f.Rename("p-pages-0", "p-pages-1"))
	ok(t, f.Write("p-pages-1", b))
	tells(t, opened(t, f), nil)
}

// W1: a journal of somebody else under the name is no log, whatever records it has.
func TestForeignRecords(t *testing.T) {
	for _, records := range [][]string{
		{""}, {"", ""}, {"x"}, {"\x00"}, {"", "x"}, {"x", ""},
		{"\x00\x00\x00\x00"}, {"\xff\x3f\x00\x02a"}, {"\xff\x40\x00\x02a"}, {"\x00\x00\x02\x02" + sized(513)}, {"\x00\x00\x00\x09abc"},
	} {
		f := disk(t, 1<<24)
		writeLog(t, f, records)
		left := told(t, opened(t, f))
		if len(left) != 0 && len(left) != 1 && len(left) != most {
			t.Errorf("%q: %v", records, left)
		}
		damaged(t, f)
	}
	// Records that tell pages are a log.
	f := disk(t, 1<<24)
	writeLog(t, f, []string{"\x00\x01\x00\x02a", "\x01\x00\x00\x01", "\x00\x00\x00\x00\x01\x00\x03bc"})
	want := book{{}, {true, "bc"}}.with(64, leaf{true, ""})
	tells(t, opened(t, f), want)
	goesOn(t, f, want)
}

// W2: where pages lie does not hang on the order in which they were changed.
func TestSameFiles(t *testing.T) {
	var first string
	for i := range 5 {
		f, p := filled(t, 1<<24, many(300, 10)...)
		r := dice()
		order := r.Perm(300)
		if i > 0 {
			slices.Reverse(order[:i*50])
		}
		for _, n := range order {
			ok(t, p.Put(n, []byte(fmt.Sprint(n))))
		}
		ok(t, p.Commit())
		if i == 0 {
			first = state(f)
		}
		if state(f) != first {
			t.Error("the files are others")
		}
	}
}

// P9.1: pagers whose names begin alike do not meet, as long as they keep off each other's files.
func TestNamesAlike(t *testing.T) {
	f := disk(t, 1<<24)
	names := []string{"p", "pp", "p2", "q", "q-", "P"}
	for range 3 {
		for i, name := range names {
			p, e := pages.Open(f, name)
			ok(t, e)
			fill(t, p, many(100+i, 100)...)
			ok(t, p.Commit())
		}
	}
	for i, name := range names {
		p, e := pages.Open(f, name)
		ok(t, e)
		all := of(many(100+i, 100)...)
		tells(t, p, slices.Concat(all, all, all))
	}
}
