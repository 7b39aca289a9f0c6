package locks_test

import (
	"math"
	"slices"
	"strings"
	"testing"

	"pantry/api"
	"pantry/locks"
)

// P12.1, P12.2: the chapter's examples.
func TestExamples(t *testing.T) {
	played(t, shares(1, "a"), shares(2, "a"), waits(3, "a"), waitsShared(4, "a"),
		gives(1, "a"), gives(2, "a", 3), gives(3, "a", 4))
}

// P12.1: who holds a lock at once, and who waits.
func TestTake(t *testing.T) {
	for name, steps := range map[string][]step{
		"alone, then anybody waits":                             {has(0, "a"), waits(1, "a"), waitsShared(2, "a")},
		"shared, then one alone":                                {shares(0, "a"), waits(1, "a")},
		"shared by many":                                        {shares(5, "a"), shares(4, "a"), shares(3, "a"), shares(2, "a"), shares(9, "a")},
		"behind one who waits alone, one who would share waits": {shares(0, "a"), waits(1, "a"), waitsShared(2, "a"), waitsShared(3, "a")},
		"who shares the last one":                               {has(0, "a"), waitsShared(1, "a"), waitsShared(2, "a"), gives(0, "a", 1, 2), shares(3, "a"), waits(4, "a")},
		"who held alone, shares":                                {has(0, "a"), gives(0, "a"), shares(0, "a"), shares(1, "a")},
		"who shared, holds alone":                               {shares(0, "a"), gives(0, "a"), has(0, "a"), waitsShared(1, "a")},
		"one who shares is left, none alone comes ahead of it":  {shares(0, "a"), shares(1, "a"), gives(0, "a"), waits(0, "a"), waitsShared(2, "a"), gives(1, "a", 0)},
		"locks are apart":                                       {has(0, "a"), has(1, "b"), has(0, "aa"), has(2, ""), has(0, "\x00"), has(1, "\xff"), waits(2, "\xff")},
		"any number, any text":                                  {has(math.MaxInt, "é\xff\x00"), waits(math.MaxInt-1, "é\xff\x00"), has(3, strings.Repeat("n", 1<<17))},
		"a task may hold many":                                  {has(0, "a"), shares(0, "b"), has(0, "c"), shares(1, "b"), waits(1, "c")},
		"alone and shared, held again":                          {has(7, "a"), gives(7, "a"), has(8, "a"), gives(8, "a"), shares(7, "a"), shares(8, "a")},
	} {
		t.Run(name, func(t *testing.T) { played(t, steps...) })
	}
}

// P12.1, W4: the errors, each ahead of the next one.
func TestTakeErrors(t *testing.T) {
	played(t, refused(-1, "a", api.ErrArg), refused(math.MinInt, "", api.ErrArg), has(1, "a"), refused(-1, "a", api.ErrArg), givesNot(-1, "a"))
	// ErrHas: what it holds, shared or alone, whatever it asks for; while it waits, whatever the lock.
	again := step{task: 1, name: "a", shared: true, e: api.ErrHas}
	played(t, has(1, "a"), refused(1, "a", api.ErrHas), again, gives(1, "a"), shares(1, "a"), again, refused(1, "a", api.ErrHas), shares(2, "a"), gives(1, "a"), shares(1, "a"))
	played(t, has(1, "a"), waits(2, "a"), refused(2, "a", api.ErrHas), refused(2, "b", api.ErrHas), has(3, "b"), refused(2, "b", api.ErrHas), gives(1, "a", 2), waits(2, "b"))
	// Ahead of ErrLock: 1 waits for 2, which waits for 1 if it asked for a.
	played(t, has(1, "a"), has(2, "b"), has(2, "c"), waits(1, "b"), waits(3, "a"), ring(2, "a"), refused(1, "a", api.ErrHas), refused(1, "c", api.ErrHas), refused(3, "b", api.ErrHas))
}

// P12.2: Give, by one who holds alone, by one of several, by the last of them, by one who does not hold.
func TestGive(t *testing.T) {
	for name, steps := range map[string][]step{
		"nobody holds it":         {givesNot(0, "a"), has(0, "a"), gives(0, "a"), givesNot(0, "a"), givesNot(1, "a")},
		"another one holds it":    {has(0, "a"), givesNot(1, "a"), waits(1, "a"), givesNot(1, "a"), has(1<<40, "b"), givesNot(0, "b")},
		"another lock":            {has(0, "a"), givesNot(0, "b"), givesNot(0, ""), givesNot(0, "A"), givesNot(0, "aa")},
		"one of several":          {shares(0, "a"), shares(1, "a"), shares(2, "a"), waits(3, "a"), gives(1, "a"), gives(0, "a"), gives(2, "a", 3)},
		"nobody in the row":       {shares(0, "a"), shares(1, "a"), gives(0, "a"), gives(1, "a"), has(2, "a")},
		"goes on by one":          {has(0, "a"), waits(2, "a"), waits(1, "a"), gives(0, "a", 2), gives(2, "a", 1), gives(1, "a")},
		"goes on by several":      {has(0, "a"), waitsShared(3, "a"), waitsShared(1, "a"), waitsShared(2, "a"), waits(4, "a"), waitsShared(5, "a"), gives(0, "a", 3, 1, 2), gives(3, "a"), gives(2, "a"), gives(1, "a", 4), gives(4, "a", 5)},
		"stops at one alone":      {has(0, "a"), waits(1, "a"), waitsShared(2, "a"), gives(0, "a", 1), gives(1, "a", 2)},
		"while it waits":          {has(0, "a"), has(1, "b"), waits(1, "a"), waits(2, "b"), gives(1, "b", 2), givesNot(1, "a"), gives(0, "a", 1)},
		"all of the row share":    {has(0, "a"), waitsShared(1, "a"), waitsShared(2, "a"), gives(0, "a", 1, 2)},
		"back into the row":       {has(0, "a"), waits(1, "a"), gives(0, "a", 1), waits(0, "a"), gives(1, "a", 0)},
		"the other lock's row":    {has(0, "a"), has(0, "b"), waits(1, "b"), gives(0, "a"), has(2, "a"), gives(0, "b", 1)},
		"errors change nothing":   {has(0, "a"), waits(1, "a"), givesNot(1, "a"), givesNot(2, "a"), gives(0, "a", 1)},
		"what is left of a holds": {has(0, "a"), has(0, "b"), gives(0, "a"), refused(0, "b", api.ErrHas), leaves(0)},
	} {
		t.Run(name, func(t *testing.T) { played(t, steps...) })
	}
}

// P12.2: Leave, of a task that waits anywhere in a row, that holds, that does both or neither.
func TestLeave(t *testing.T) {
	for name, steps := range map[string][]step{
		"does neither":                     {leaves(0), leaves(-1), leaves(math.MaxInt), has(0, "a"), leaves(1), gives(0, "a"), leaves(0)},
		"in the middle of a row":           {has(0, "a"), waits(1, "a"), waits(2, "a"), waits(3, "a"), leaves(2), gives(0, "a", 1), gives(1, "a", 3)},
		"in the middle, all but it share":  {has(0, "a"), waitsShared(1, "a"), waits(2, "a"), waitsShared(3, "a"), leaves(2), gives(0, "a", 1, 3)},
		"at the front, of those who share": {shares(0, "a"), shares(9, "a"), waits(1, "a"), waitsShared(2, "a"), waitsShared(3, "a"), waits(4, "a"), waitsShared(5, "a"), leaves(1, 2, 3), gives(2, "a"), gives(0, "a"), gives(9, "a"), gives(3, "a", 4)},
		"at the front, another one alone":  {shares(0, "a"), waits(1, "a"), waits(2, "a"), leaves(1), gives(0, "a", 2)},
		"at the front, held alone":         {has(0, "a"), waits(1, "a"), waitsShared(2, "a"), leaves(1), gives(0, "a", 2)},
		"at the end":                       {has(0, "a"), waits(1, "a"), waits(2, "a"), leaves(2), gives(0, "a", 1), gives(1, "a")},
		"several locks, by their names": {has(0, "b"), has(0, "\xff"), has(0, ""), has(0, "a"), has(0, "B"), has(0, "aa"),
			waits(1, "\xff"), waits(2, "aa"), waits(3, "b"), waits(4, "a"), waits(5, ""), waits(6, "B"), leaves(0, 5, 6, 4, 2, 3, 1)},
		"each row in its order":           {has(0, "b"), has(0, "a"), waitsShared(9, "b"), waitsShared(8, "b"), waitsShared(7, "a"), waitsShared(6, "a"), waits(5, "a"), leaves(0, 7, 6, 9, 8)},
		"the row it waits in comes first": {shares(0, "z"), has(1, "a"), has(1, "b"), waits(1, "z"), waitsShared(2, "z"), waits(3, "a"), waits(4, "b"), leaves(1, 2, 3, 4)},
		"does both, another one's lock":   {has(0, "z"), has(1, "a"), waits(1, "z"), waits(2, "z"), waits(3, "a"), leaves(1, 3), gives(0, "z", 2)},
		"one of several who share":        {shares(0, "a"), shares(1, "a"), waits(2, "a"), leaves(0), leaves(1, 2)},
		"comes again":                     {has(0, "a"), waits(1, "a"), leaves(0, 1), waits(0, "a"), leaves(0), has(0, "b"), leaves(1), has(0, "a")},
		"who gets one waits for no other": {has(0, "a"), has(0, "b"), has(1, "c"), waits(1, "a"), waits(2, "b"), leaves(0, 1, 2), waits(2, "c"), leaves(1, 2)},
	} {
		t.Run(name, func(t *testing.T) { played(t, steps...) })
	}
}

// P12.3: of tasks and locks of any kind.
func TestHoldsAndWaits(t *testing.T) {
	x := locks.New()
	x.Take(3, "a", true)
	x.Take(4, "a", true)
	x.Take(3, "b", false)
	x.Take(5, "", false)
	x.Take(6, "", false)
	for _, c := range []struct {
		task int
		name string
		want bool
	}{{3, "a", true}, {4, "a", true}, {3, "b", true}, {4, "b", false}, {5, "", true}, {6, "", false}, {5, "a", false}, {-1, "a", false}, {-1, "", false}, {0, "", false}, {3, "c", false}, {math.MinInt, "", false}} {
		if got := x.Holds(c.task, c.name); got != c.want {
			t.Errorf("Holds(%d, %q) = %v", c.task, c.name, got)
		}
	}
	// A lock without a name is waited for as any other.
	if name, ok := x.Waits(6); name != "" || !ok {
		t.Errorf("Waits(6) = %q, %v", name, ok)
	}
	for _, task := range []int{-1, 0, 3, 4, 5, 7, math.MaxInt, math.MinInt} {
		if name, ok := x.Waits(task); name != "" || ok {
			t.Errorf("Waits(%d) = %q, %v", task, name, ok)
		}
	}
	x.Take(4, "b", true)
	if name, ok := x.Waits(4); name != "b" || !ok || x.Holds(4, "b") {
		t.Errorf("Waits(4) = %q, %v", name, ok)
	}
}

// P12.6: a nil Table.
func TestNilTable(t *testing.T) {
	var x *locks.Table
	for _, task := range []int{-1, 0, 1} {
		ok, e := x.Take(task, "a", true)
		now, e2 := x.Give(task, "a")
		name, waits := x.Waits(task)
		if ok || e != api.ErrArg || len(now) != 0 || e2 != api.ErrArg || name != "" || waits || x.Holds(task, "a") || len(x.Leave(task)) != 0 {
			t.Error(task, ok, e, now, e2, name, waits)
		}
	}
}

// W1: a Table that New did not make has no lock.
func TestTableAsValue(t *testing.T) {
	var x locks.Table
	if now, e := x.Give(1, "a"); len(now) != 0 || e != api.ErrNone || x.Holds(1, "a") || len(x.Leave(1)) != 0 {
		t.Error(now, e)
	}
	if _, ok := x.Waits(1); ok {
		t.Error("it waits")
	}
	if ok, e := x.Take(1, "a", false); !ok || e != api.OK {
		t.Error(ok, e)
	}
	if ok, e := x.Take(2, "a", false); ok || e != api.OK {
		t.Error(ok, e)
	}
	if now := x.Leave(1); !slices.Equal(now, []int{2}) {
		t.Error(now)
	}
}

// Two Tables have nothing in common.
func TestTablesAreApart(t *testing.T) {
	x, y := locks.New(), locks.New()
	x.Take(1, "a", false)
	if ok, e := y.Take(2, "a", false); !ok || e != api.OK || y.Holds(1, "a") || x.Holds(2, "a") {
		t.Error(ok, e)
	}
}
