package locks_test

import (
	"slices"
	"strconv"
	"testing"

	"pantry/api"
	"pantry/locks"
)

// P12.1: rings, and what looks like one.
func TestRings(t *testing.T) {
	for name, steps := range map[string][]step{
		"of two":   {has(1, "a"), has(2, "b"), waits(1, "b"), ring(2, "a"), ringShared(2, "a"), gives(2, "b", 1), waits(2, "a")},
		"of three": {has(1, "a"), has(2, "b"), has(3, "c"), waits(1, "b"), waits(2, "c"), ring(3, "a"), ring(3, "b"), gives(3, "c", 2), waits(3, "a")},
		"of five": {has(1, "a"), has(2, "b"), has(3, "c"), has(4, "d"), has(5, "e"),
			waits(3, "d"), waits(5, "a"), waits(1, "b"), waits(4, "e"), ring(2, "c"), ring(2, "d"), ring(2, "e"), ring(2, "a")},
		"through one of several who share":                  {shares(1, "a"), shares(2, "a"), shares(3, "a"), has(4, "b"), waits(2, "b"), ring(4, "a"), gives(2, "a"), waits(4, "a")},
		"by one who shares, as another one waits ahead":     {shares(1, "a"), has(2, "b"), waits(1, "b"), waits(3, "a"), ringShared(2, "a")},
		"who would share needs no row":                      {shares(1, "a"), has(2, "b"), waits(1, "b"), shares(2, "a")},
		"through the row, behind one who shares":            {shares(1, "a"), has(2, "b"), waits(3, "a"), waitsShared(4, "a"), waitsShared(1, "b"), ringShared(2, "a"), leaves(3, 4), shares(2, "a")},
		"both share one lock and want it of two others":     {shares(1, "a"), shares(2, "a"), shares(1, "b"), shares(2, "b"), has(3, "c"), waits(1, "c"), ring(3, "a"), ring(3, "b"), has(3, "d"), waits(2, "d"), ring(3, "b")},
		"one who waits ahead holds what the next one needs": {has(1, "a"), has(2, "b"), waits(2, "a"), waits(3, "b"), waits(4, "a"), ring(1, "b"), gives(1, "a", 2), has(1, "z"), waits(1, "b")},
		"behind who waits ahead":                            {has(1, "a"), has(2, "b"), has(3, "c"), waits(2, "a"), waits(3, "a"), ring(1, "b"), ring(1, "c"), gives(1, "a", 2), ring(2, "c"), waits(1, "b")},
		"through two rows":                                  {has(1, "a"), has(2, "b"), has(3, "c"), waits(4, "a"), waits(2, "a"), waits(5, "b"), waits(3, "b"), ring(1, "c"), ringShared(1, "c")},
		"none: a row is no ring":                            {has(1, "a"), has(2, "b"), waits(3, "a"), waits(4, "a"), waits(2, "a")},
		"none: a chain":                                     {has(1, "a"), has(2, "b"), has(3, "c"), waits(2, "a"), waits(3, "b"), waits(4, "c"), gives(1, "a", 2), gives(2, "b", 3), gives(3, "c", 4)},
		"none: two ways to one":                             {has(1, "a"), has(1, "b"), has(2, "c"), waits(2, "a"), has(3, "d"), waits(3, "b"), waits(4, "c"), has(5, "e"), waits(5, "d")},
		"none: a row behind it":                             {has(1, "a"), has(2, "b"), waits(3, "a"), waits(1, "b"), leaves(2, 1)},
		"none: it gave back":                                {has(1, "a"), has(2, "b"), waits(1, "b"), gives(1, "a"), has(2, "a")},
		"none: others are in a line":                        {has(1, "a"), has(2, "b"), waits(3, "a"), waits(4, "b"), has(5, "c"), waits(1, "c"), waits(2, "c"), has(6, "d"), waits(6, "a")},
		"none: who waits holds something else":              {has(1, "a"), has(2, "b"), has(2, "c"), waits(2, "a"), has(1, "d"), waits(3, "d"), has(1, "e")},
		"none: it holds nothing":                            {has(1, "a"), has(2, "b"), waits(1, "b"), waits(3, "a"), waits(4, "b")},
		"a free lock makes none":                            {has(1, "a"), waits(2, "a"), has(1, "b"), has(1, "c"), leaves(1, 2)},
	} {
		t.Run(name, func(t *testing.T) { played(t, steps...) })
	}
}

// P12.1, W3: behind ErrLock all goes on as if it had not been asked.
func TestErrLockChangesNothing(t *testing.T) {
	played(t, has(1, "a"), has(2, "b"), waits(1, "b"), waits(3, "a"), ring(2, "a"), ringShared(2, "a"),
		has(2, "c"), gives(2, "c"), gives(2, "b", 1), gives(1, "a", 3), gives(3, "a"), gives(1, "b"), has(2, "a"), has(3, "b"))
	played(t, shares(1, "a"), has(2, "b"), waits(1, "b"), ring(2, "a"), shares(3, "a"), leaves(2, 1), shares(2, "a"))
}

// P12.1, W1: a ring of very many tasks, who ask one way round or the other.
func TestLongRing(t *testing.T) {
	n := 50000
	for _, rising := range []bool{true, false} {
		x := locks.New()
		for i := range n {
			x.Take(i, strconv.Itoa(i), false)
		}
		for k := range n - 1 {
			i := k
			if !rising {
				i = n - 2 - k
			}
			if ok, e := x.Take(i, strconv.Itoa(i+1), i%2 == 0); ok || e != api.OK {
				t.Fatal(i, ok, e)
			}
		}
		for _, to := range []int{0, 1, n / 2, n - 2} {
			if ok, e := x.Take(n-1, strconv.Itoa(to), false); ok || e != api.ErrLock {
				t.Error(to, ok, e)
			}
		}
		if ok, e := x.Take(n-1, "more", false); !ok || e != api.OK {
			t.Error(ok, e)
		}
		for i := n - 1; i > 0; i-- {
			if now := x.Leave(i); !slices.Equal(now, []int{i - 1}) {
				t.Fatal(i, now)
			}
		}
	}
}

// P12.1, W1: ways from task to task that part and meet again and again.
func TestManyWays(t *testing.T) {
	x := locks.New()
	layers := 50
	for i := range layers {
		x.Take(2*i, strconv.Itoa(i), true)
		x.Take(2*i+1, strconv.Itoa(i), true)
	}
	for i := 1; i < layers; i++ {
		x.Take(2*i, strconv.Itoa(i-1), false)
		x.Take(2*i+1, strconv.Itoa(i-1), false)
	}
	// Somebody waits for 500 and for 600, but all others need in the end what 0 waits for, which 600 holds.
	for _, c := range []struct {
		task, other int
		e           api.Errno
	}{{500, 700, api.OK}, {600, 0, api.ErrLock}} {
		own := strconv.Itoa(c.task)
		x.Take(c.task, own, false)
		if ok, e := x.Take(c.other, own, false); ok || e != api.OK {
			t.Error(c.task, ok, e)
		}
		if ok, e := x.Take(c.task, strconv.Itoa(layers-1), false); ok || e != c.e {
			t.Error(c.task, ok, e)
		}
	}
}

// W1: a lock that very many share, and a row of very many.
func TestManyTasks(t *testing.T) {
	x := locks.New()
	n := 50000
	for i := range n {
		if ok, e := x.Take(i, "a", true); !ok || e != api.OK {
			t.Fatal(i, ok, e)
		}
	}
	for i := n; i < 2*n; i++ {
		x.Take(i, strconv.Itoa(i), false)
		if ok, e := x.Take(i, "a", i > n); ok || e != api.OK {
			t.Fatal(i, ok, e)
		}
	}
	for i := n - 1; i > 0; i-- {
		if now := x.Leave(i); len(now) != 0 {
			t.Fatal(i, now)
		}
	}
	if now, e := x.Give(0, "a"); !slices.Equal(now, []int{n}) || e != api.OK {
		t.Error(len(now), e)
	}
	now := x.Leave(n)
	if len(now) != n-1 || now[0] != n+1 || !slices.IsSorted(now) {
		t.Error(len(now))
	}
}
