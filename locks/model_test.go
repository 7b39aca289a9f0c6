package locks_test

import (
	"fmt"
	"math/rand/v2"
	"slices"
	"testing"

	"pantry/api"
)

// someNames are few, so that tasks meet, in an order that is no other one's.
var someNames = []string{"b", "a", "", "aa", "B", "\xff", "a\x00"}

// P12.1 to P12.3, P12.5: whatever is called, what the chapter's words tell of lists of claims.
func TestSomeCalls(t *testing.T) {
	rings, several := 0, 0
	for round := range rounds(3000) {
		r := dice(uint64(round))
		b := newBoth(t)
		// Few names make long rows, few tasks make rings.
		names := someNames[:1+r.IntN(len(someNames))]
		all := list(-1, 2+r.IntN(9))
		alone := r.IntN(4)
		for range 60 {
			task, name := all[r.IntN(len(all))], names[r.IntN(len(names))]
			var now []int
			switch k := r.IntN(20); {
			case k < 13:
				if _, e := b.take(task, name, r.IntN(4) >= alone); e == api.ErrLock {
					rings++
				}
			case k < 19:
				now, _ = b.give(task, name)
			default:
				now = b.leave(task)
			}
			if len(now) > 1 {
				several++
			}
			b.same(all, names)
			b.agree(names)
		}
		b.drained(r, all, names)
	}
	if rings < rounds(3000)/3 || several < rounds(3000)/12 {
		t.Errorf("%d rings, %d times several who hold something now: too few to tell anything", rings, several)
	}
}

// list is all numbers from one to another.
func list(from, to int) (all []int) {
	for i := from; i <= to; i++ {
		all = append(all, i)
	}
	return all
}

// agree asks whether all who hold a lock share it, where they are several.
func (b *both) agree(names []string) {
	b.t.Helper()
	for _, name := range names {
		var holders []claim
		for _, c := range b.m.held[name] {
			if b.x.Holds(c.task, name) {
				holders = append(holders, c)
			}
		}
		if len(holders) > 1 && slices.ContainsFunc(holders, func(c claim) bool { return !c.shared }) {
			b.failed(fmt.Sprint(name, " held by ", holders), "one alone")
		}
	}
}

// drained lets all who hold something give it back, in any order: then each who waited held it in its turn, and in the
// end nobody holds and nobody waits.
func (b *both) drained(r *rand.Rand, all []int, names []string) {
	b.t.Helper()
	want, got := map[string][]int{}, map[string][]int{}
	for name, row := range b.m.rows {
		for _, c := range row {
			want[name] = append(want[name], c.task)
		}
	}
	for tasks := b.m.tasks(); len(tasks) > 0; tasks = b.m.tasks() {
		task := tasks[r.IntN(len(tasks))]
		held := b.m.namesOf(task)
		if len(held) == 0 {
			continue
		}
		name := held[r.IntN(len(held))]
		now, _ := b.give(task, name)
		got[name] = append(got[name], now...)
		b.same(all, names)
	}
	for _, name := range names {
		if !slices.Equal(got[name], want[name]) {
			b.failed(fmt.Sprint("that ", got[name], " held ", name), fmt.Sprint(want[name]))
		}
	}
	b.empty(list(0, slices.Max(all)), names)
}
