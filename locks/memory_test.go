package locks_test

import (
	"runtime"
	"slices"
	"strconv"
	"strings"
	"sync"
	"testing"
	"unsafe"

	"pantry/api"
	"pantry/locks"
)

// borrowed is a text, and the bytes that it stands in.
func borrowed(s string) (string, []byte) {
	b := []byte(s)
	return unsafe.String(unsafe.SliceData(b), len(b)), b
}

// meet tells whether two texts share memory.
func meet(s, other string) bool {
	from := uintptr(unsafe.Pointer(unsafe.StringData(s)))
	otherFrom := uintptr(unsafe.Pointer(unsafe.StringData(other)))
	return from < otherFrom+uintptr(len(other)) && otherFrom < from+uintptr(len(s))
}

// P12.6, W6: names that are handed in are not kept.
func TestNamesAreNotKept(t *testing.T) {
	x := locks.New()
	name, b := borrowed("lock")
	take := func(task int) {
		copy(b, "lock")
		x.Take(task, name, false)
		copy(b, "gone")
	}
	for task := 1; task <= 3; task++ {
		take(task)
	}
	if got, ok := x.Waits(2); !x.Holds(1, "lock") || x.Holds(1, "gone") || got != "lock" || !ok {
		t.Errorf("%q, %v", got, ok)
	}
	copy(b, "lock")
	if now, e := x.Give(1, name); !slices.Equal(now, []int{2}) || e != api.OK {
		t.Error(now, e)
	}
	copy(b, "gone")
	if !x.Holds(2, "lock") {
		t.Error("2 does not hold it")
	}
	take(1)
	if now := x.Leave(2); !slices.Equal(now, []int{3}) || !x.Holds(3, "lock") {
		t.Error(now)
	}
	if now := x.Leave(3); !slices.Equal(now, []int{1}) || !x.Holds(1, "lock") {
		t.Error(now)
	}
	if now := x.Leave(1); len(now) != 0 || x.Holds(1, "lock") {
		t.Error(now)
	}
}

// P12.6, W6: a name that is answered is new memory each time.
func TestNamesAreNew(t *testing.T) {
	x := locks.New()
	name := strings.Clone("lock")
	x.Take(1, name, false)
	x.Take(2, name, false)
	one, _ := x.Waits(2)
	two, _ := x.Waits(2)
	if one != "lock" || two != "lock" || meet(one, two) || meet(one, name) || meet(two, name) {
		t.Errorf("%q, %q", one, two)
	}
	b := unsafe.Slice(unsafe.StringData(one), len(one))
	copy(b, "gone")
	if again, _ := x.Waits(2); again != "lock" || two != "lock" || !x.Holds(1, "lock") {
		t.Errorf("%q, %q", again, two)
	}
}

// P12.6, W6, W7: rows that are answered may be changed by the caller, with the room behind them.
func TestListsAreNew(t *testing.T) {
	x := locks.New()
	for _, name := range []string{"a", "b"} {
		x.Take(0, name, false)
	}
	for task := 1; task <= 5; task++ {
		x.Take(task, "a", task <= 3)
	}
	x.Take(9, "b", false)
	spoil := func(l []int) {
		l = l[:cap(l)]
		for i := range l {
			l[i] = -7
		}
	}
	one, _ := x.Give(0, "a")
	if !slices.Equal(one, []int{1, 2, 3}) {
		t.Fatal(one)
	}
	kept := slices.Clone(one)
	two := x.Leave(0)
	spoil(two)
	if !slices.Equal(one, kept) || !x.Holds(9, "b") {
		t.Error(one)
	}
	spoil(one)
	for task := 1; task <= 3; task++ {
		if !x.Holds(task, "a") {
			t.Error(task)
		}
	}
	x.Leave(1)
	x.Leave(2)
	three := x.Leave(3)
	if !slices.Equal(three, []int{4}) {
		t.Error(three)
	}
	spoil(three)
	if four, _ := x.Give(4, "a"); !slices.Equal(four, []int{5}) || !x.Holds(5, "a") {
		t.Error(four)
	}
}

// heap is how many bytes are in use.
func heap() int {
	var m runtime.MemStats
	runtime.GC()
	runtime.ReadMemStats(&m)
	return int(m.HeapAlloc)
}

// What nobody holds, who holds nothing, and what has ended is not kept.
func TestNothingIsKept(t *testing.T) {
	x, r := locks.New(), locks.NewRun()
	for what, do := range map[string]func(i int){
		"locks that are given back": func(i int) {
			name := strings.Repeat(strconv.Itoa(i), 200)
			x.Take(1, name, true)
			x.Give(1, name)
		},
		"locks that are left": func(i int) {
			name := strings.Repeat(strconv.Itoa(i), 200)
			x.Take(2, name, true)
			x.Leave(2)
		},
		"tasks that give back": func(i int) {
			x.Take(i, "a", true)
			x.Give(i, "a")
		},
		"tasks that leave": func(i int) {
			x.Take(i, "b", true)
			x.Leave(i)
		},
		"tasks that waited": func(i int) {
			x.Take(0, "c", false)
			x.Take(i+1, "c", true)
			x.Leave(i + 1)
		},
		"steps": func(i int) {
			b := make([]byte, 1000)
			r.Add(func() bool { return len(b) == 0 })
			r.Step(0)
		},
	} {
		before := heap()
		for i := range 20000 {
			do(i)
		}
		if more := heap() - before; more > 1<<20 {
			t.Errorf("%s: %d bytes more", what, more)
		}
	}
	runtime.KeepAlive(x)
	runtime.KeepAlive(r)
}

// W2, W9: what one Table answers does not hang on what others do meanwhile.
func TestTablesBesideEachOther(t *testing.T) {
	var all sync.WaitGroup
	for range 8 {
		all.Go(func() {
			x := locks.New()
			r := locks.NewRun()
			for task := range 50 {
				x.Take(task, "a", task%5 != 0)
				r.Add(func() bool { return len(x.Leave(task)) > 99 })
			}
			for range 50 {
				if _, ok := r.Step(0); !ok {
					t.Error("no step")
				}
			}
			if ok, e := x.Take(100, "a", false); !ok || e != api.OK {
				t.Error(ok, e)
			}
		})
	}
	all.Wait()
}
