package btree_test

import (
	"fmt"
	"iter"
	"slices"
	"strings"
	"testing"

	"pantry/api"
	"pantry/btree"
)

// spread is keys of which each second one is not there, some of them with long values.
func spread(n int) list {
	l := list{}
	for i := range n {
		l[key(2*i, 40)] = sized(i % 120)
		if i%20 == 7 {
			l[key(2*i, 40)] = sized(300 + i)
		}
	}
	return l
}

// P10.3: from below the first key, from a key, from between two, and from behind the last one.
func TestRangeFrom(t *testing.T) {
	for _, n := range []int{0, 1, 2, 20, 300, 2000} {
		want := spread(n)
		x := opened(t, disk(t, 1<<24))
		puts(t, x, want)
		all := want.keys()
		froms := []string{"", "\x00", "0", "1", "a", "\xff", strings.Repeat("\xff", api.MaxKey), sized(api.MaxKey + 1), sized(1 << 12), "\x00" + sized(300)}
		for i := 0; i < n; i += 1 + n/40 {
			k := all[i]
			// Just ahead of the key, the key, just behind it, and where a key is lacking.
			froms = append(froms, k[:len(k)-1], k, k+"\x00", k+sized(api.MaxKey), key(2*i+1, 40))
		}
		if n > 0 {
			froms = append(froms, all[n-1], all[n-1]+"\x00", all[n-1][:39], all[0], all[0]+"\x00")
		}
		for _, from := range froms {
			if got := ranged(x, from); !slices.Equal(got, want.from(from)) {
				t.Errorf("%d keys from %.20q: %d, want %d", n, from, len(got), len(want.from(from)))
			}
		}
	}
}

// P10.3: from each key, and from each place between two.
func TestRangeFromEach(t *testing.T) {
	want := spread(rounds(1200))
	x := opened(t, disk(t, 1<<24))
	puts(t, x, want)
	all := want.from("")
	for i, y := range all {
		for from, first := range map[string]int{y.key: i, y.key + "\x00": i + 1} {
			got, some := "", false
			for k := range x.Range(from) {
				got, some = k, true
				break
			}
			if some != (first < len(all)) || some && got != all[first].key {
				t.Fatalf("from %q: %q", from, got)
			}
		}
	}
}

// P10.3: one that is ended early, at each place.
func TestRangeEndedEarly(t *testing.T) {
	want := spread(50)
	x := opened(t, disk(t, 1<<24))
	puts(t, x, want)
	all := want.from("")
	for end := range all {
		var got []pair
		for k, b := range x.Range("") {
			got = append(got, pair{k, string(b)})
			if len(got) == end+1 {
				break
			}
		}
		if !slices.Equal(got, all[:end+1]) {
			t.Errorf("ended behind %d: %d", end+1, len(got))
		}
	}
	// One that is left by other means is ended, too.
	func() {
		defer func() { recover() }()
		for range x.Range("") {
			panic("left")
		}
	}()
	if x.Cursors() != 0 {
		t.Errorf("%d are under way", x.Cursors())
	}
	put(t, x, "more", "")
	tells(t, x, want.with("more", ""))
}

// P10.3: what one hands on is what is there when it is asked for the first one, whenever it was made, each time anew.
func TestRangeBegins(t *testing.T) {
	x := opened(t, disk(t, 1<<24))
	all, some := x.Range(""), x.Range("b")
	collect := func(seq iter.Seq2[string, []byte]) string {
		s := ""
		for k, b := range seq {
			s += k + string(b) + " "
		}
		return s
	}
	for _, step := range []struct {
		do        func()
		all, some string
	}{
		{func() {}, "", ""},
		{func() { put(t, x, "b", "1"); put(t, x, "a", "2") }, "a2 b1 ", "b1 "},
		{func() { put(t, x, "c", "3") }, "a2 b1 c3 ", "b1 c3 "},
		{func() { ok(t, x.Delete("b")) }, "a2 c3 ", "c3 "},
		{func() { put(t, x, "c", "4") }, "a2 c4 ", "c4 "},
		{func() { x.Drop() }, "", ""},
	} {
		step.do()
		if a, s := collect(all), collect(some); a != step.all || s != step.some {
			t.Errorf("%q, %q, want %q, %q", a, s, step.all, step.some)
		}
	}
}

// changesWhile is what is done while a Range goes on.
func changesWhile(t *testing.T, x *btree.Tree, want list) map[string]func(i int) {
	t.Helper()
	all := want.keys()
	return map[string]func(i int){
		"nothing": func(int) {},
		"deletes what was handed on": func(i int) {
			ok(t, x.Delete(all[i]))
		},
		"deletes what is to come": func(i int) {
			if e := x.Delete(all[len(all)-1-i]); i < len(all)/2 && e != api.OK {
				t.Error(e)
			}
		},
		"puts behind": func(i int) {
			put(t, x, all[i]+"\x00", sized(i))
		},
		"puts ahead": func(i int) {
			put(t, x, "\x00"+all[i], sized(i))
		},
		"other values": func(i int) {
			for _, k := range all[i:min(i+5, len(all))] {
				put(t, x, k, "other"+sized(i*3))
			}
		},
		"deletes all at once": func(i int) {
			if i == len(all)/3 {
				for _, k := range all {
					ok(t, x.Delete(k))
				}
			}
		},
		"drops": func(i int) {
			put(t, x, all[i], "gone")
			x.Drop()
		},
		"drops late": func(i int) {
			if i == len(all)/2 {
				x.Drop()
			}
		},
		"commits": func(i int) {
			if i%30 == 0 {
				ok(t, x.Delete(all[i]))
				ok(t, x.Commit())
			}
		},
		"commits alone": func(i int) {
			if i%30 == 0 {
				ok(t, x.Commit())
			}
		},
		"refused": func(i int) {
			answers(t, x.Delete("none"), api.ErrNone)
			answers(t, x.Put("", nil), api.ErrName)
			answers(t, x.Put("k", make([]byte, api.MaxValue+1)), api.ErrLong)
		},
	}
}

// P10.3: changes while it goes on.
func TestRangeWhileChanging(t *testing.T) {
	want := spread(300)
	kinds := changesWhile(t, nil, want)
	for name := range kinds {
		x := opened(t, disk(t, 1<<24))
		puts(t, x, many(100, 40, 7))
		ok(t, x.Commit())
		for _, k := range many(100, 40, 7).keys() {
			ok(t, x.Delete(k))
		}
		puts(t, x, want)
		change := changesWhile(t, x, want)[name]
		// Another one that is under way, and has handed on a few, stays as it is, too.
		next, stop := iter.Pull2(x.Range(key(20, 40)))
		other := want.from(key(20, 40))
		for range 5 {
			other = pulled(t, next, other)
		}
		var got []pair
		for k, b := range x.Range("") {
			change(len(got))
			got = append(got, pair{k, string(b)})
		}
		if !slices.Equal(got, want.from("")) {
			t.Errorf("%s: %d keys, want %d", name, len(got), len(want))
		}
		for len(other) > 0 {
			other = pulled(t, next, other)
		}
		if k, b, some := next(); some {
			t.Errorf("%s: %q, %q is one too many", name, k, b)
		}
		stop()
		if x.Cursors() != 0 {
			t.Errorf("%s: %d are under way", name, x.Cursors())
		}
		told(t, x)
	}
}

// pulled asks for the next one of a Range, and is what is still to come.
func pulled(t *testing.T, next func() (string, []byte, bool), want []pair) []pair {
	t.Helper()
	k, b, some := next()
	if !some || k != want[0].key || string(b) != want[0].value {
		t.Fatalf("%.20q, %d bytes, %v, want %.20q, %d bytes", k, len(b), some, want[0].key, len(want[0].value))
	}
	return want[1:]
}

// P10.3: Ranges within one another.
func TestRangeWithinRange(t *testing.T) {
	want := spread(30)
	x := opened(t, disk(t, 1<<24))
	puts(t, x, want)
	all := want.from("")
	for i := range all {
		seen := 0
		for k := range x.Range(all[i].key) {
			got := ranged(x, k)
			if !slices.Equal(got, all[i+seen:]) {
				t.Fatalf("from %q: %d", k, len(got))
			}
			seen++
		}
	}
}

// P10.3, P10.6: Ranges that begin, go on and end at random between changes at random.
func TestRangesAtRandom(t *testing.T) {
	r := dice()
	for range rounds(30) {
		x := opened(t, disk(t, 1<<24))
		now, last := list{}, list{}
		type way struct {
			next func() (string, []byte, bool)
			stop func()
			left []pair
			asks bool // it was asked for the first one
			from string
		}
		var ways []*way
		for range 400 {
			k := key(r.IntN(150), 6+r.IntN(90))
			switch kind := r.IntN(20); {
			case kind < 8:
				now[k] = sized(r.IntN(60) * r.IntN(12))
				put(t, x, k, now[k])
			case kind < 11 && len(now) > 0:
				k := now.keys()[r.IntN(len(now))]
				ok(t, x.Delete(k))
				delete(now, k)
			case kind < 12:
				ok(t, x.Commit())
				last = now.with("", "")
				delete(last, "")
			case kind < 13:
				x.Drop()
				now = last.with("", "")
				delete(now, "")
			case kind < 15:
				y := &way{from: k}
				y.next, y.stop = iter.Pull2(x.Range(k))
				ways = append(ways, y)
			case kind < 16 && len(ways) > 0:
				i := r.IntN(len(ways))
				ways[i].stop()
				ways = slices.Delete(ways, i, i+1)
			case len(ways) > 0:
				y := ways[r.IntN(len(ways))]
				if !y.asks {
					y.asks, y.left = true, now.from(y.from)
				}
				if len(y.left) > 0 {
					y.left = pulled(t, y.next, y.left)
				} else if k, _, some := y.next(); some {
					t.Fatalf("%q is one too many", k)
				}
			}
		}
		for _, y := range ways {
			y.stop()
		}
		if x.Cursors() != 0 {
			t.Errorf("%d are under way", x.Cursors())
		}
		tells(t, x, now)
	}
}

// P10.3: one that ends early does not read the rest, and one without changes keeps nothing.
func TestRangeIsShort(t *testing.T) {
	x := opened(t, disk(t, 1<<26))
	puts(t, x, many(100, 20, 1<<15))
	often := testing.AllocsPerRun(20, func() {
		for range x.Range(key(3, 20)) {
			break
		}
	})
	if often > 1000 {
		t.Errorf("one key takes %v pieces of memory", often)
	}
	if got := fmt.Sprint(len(ranged(x, key(97, 20)))); got != "3" {
		t.Error(got)
	}
}
