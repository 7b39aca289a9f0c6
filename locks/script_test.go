package locks_test

import (
	"fmt"
	"math/rand/v2"
	"slices"
	"strings"
	"testing"

	"pantry/api"
	"pantry/locks"
)

// runModel is what a Run is to be: the numbers of tasks that have not ended, rising, and what they are.
type runModel struct {
	there   []int
	blocked map[int]bool
	next    int
	steps   int
	within  bool
}

func (m *runModel) add() int {
	if len(m.there) == 256 {
		return -1
	}
	m.there = append(m.there, m.next)
	m.next++
	return m.next - 1
}

func (m *runModel) mark(task int, blocked bool) bool {
	if !slices.Contains(m.there, task) {
		return false
	}
	m.blocked[task] = blocked
	return true
}

// picked is the task that does a step, or -1.
func (m *runModel) picked(pick int) int {
	var able []int
	for _, task := range m.there {
		if !m.blocked[task] {
			able = append(able, task)
		}
	}
	if m.within || len(able) == 0 {
		return -1
	}
	if pick < 0 {
		return able[0]
	}
	return able[pick%len(able)]
}

func (m *runModel) did(task int, ended bool) {
	m.steps++
	if ended {
		m.there = slices.DeleteFunc(m.there, func(other int) bool { return other == task })
	}
}

// script is a Run with its model, and steps that do anything.
type script struct {
	t     *testing.T
	r     *locks.Run
	m     *runModel
	dice  *rand.Rand
	calls []string
	did   []int // who did a step
	ended bool  // whether the last one has ended
}

func (s *script) asks(call string, got, want any) {
	s.t.Helper()
	s.calls = append(s.calls, fmt.Sprint(call, " = ", got))
	if got != want {
		s.t.Fatalf("%s: want %v", strings.Join(s.calls[max(0, len(s.calls)-30):], ", "), want)
	}
}

// some is a call that a step may do, too.
func (s *script) some() {
	s.t.Helper()
	task := s.dice.IntN(s.m.next+3) - 1
	switch s.dice.IntN(5) {
	case 0:
		s.asks(fmt.Sprintf("Block(%d)", task), s.r.Block(task), s.m.mark(task, true))
	case 1, 2:
		s.asks(fmt.Sprintf("Wake(%d)", task), s.r.Wake(task), s.m.mark(task, false))
	case 3:
		want := s.m.add()
		s.asks("Add", s.r.Add(s.step(want)), want)
	case 4:
		tasks, _ := s.r.Left()
		s.asks("Left", tasks, len(s.m.there))
	}
}

// step is one that does some calls, and then says anything.
func (s *script) step(task int) func() bool {
	return func() bool {
		s.did = append(s.did, task)
		for range s.dice.IntN(4) {
			s.some()
			if s.dice.IntN(4) == 0 {
				got, ok := s.r.Step(s.dice.IntN(9) - 2)
				s.asks("Step within a step", fmt.Sprint(got, ok), "-1 false")
			}
		}
		s.ended = s.dice.IntN(4) == 0
		if s.ended && s.dice.IntN(2) == 0 {
			panic(task)
		}
		return !s.ended
	}
}

// turn is a Step.
func (s *script) turn() {
	s.t.Helper()
	pick := s.dice.IntN(300) - 20
	want := s.m.picked(pick)
	s.m.within = true
	got, ok := s.r.Step(pick)
	s.m.within = false
	s.asks(fmt.Sprintf("Step(%d)", pick), fmt.Sprint(got, ok), fmt.Sprint(want, want >= 0))
	if want >= 0 {
		s.asks("who did steps", fmt.Sprint(s.did), fmt.Sprint([]int{want}))
		s.m.did(want, s.ended)
	}
	s.did = nil
	tasks, steps := s.r.Left()
	s.asks("Left", fmt.Sprint(tasks, steps), fmt.Sprint(len(s.m.there), s.m.steps))
}

// P12.4: whatever is called, in steps and between them, what a list of numbers tells.
func TestSomeSteps(t *testing.T) {
	for round := range rounds(1000) {
		s := &script{t: t, r: locks.NewRun(), m: &runModel{blocked: map[int]bool{}}, dice: dice(uint64(round))}
		for range 200 {
			if s.dice.IntN(3) == 0 {
				s.some()
			} else {
				s.turn()
			}
		}
	}
}

// buyer is a task that takes its locks one by one, and gives them back.
type buyer struct {
	wants []string
	held  int
}

// P12.4, P12.5: tasks that take locks in one order make no ring: all end, whatever is picked; and no two hold one that
// one of them does not share.
func TestAnyPicksServeAll(t *testing.T) {
	order := []string{"a", "b", "c", "d"}
	for round := range rounds(500) {
		d := dice(uint64(round))
		x, r := locks.New(), locks.NewRun()
		inside := map[string]int{} // who holds a lock; 100 for one alone
		shared := func(task int) bool { return task%3 == 0 }
		weight := func(task int) int {
			if shared(task) {
				return 1
			}
			return 100
		}
		come := func(task int, name string) {
			inside[name] += weight(task)
			if inside[name] > 100 || inside[name] == 100 && shared(task) {
				t.Fatalf("%d holds %s with others", task, name)
			}
		}
		n := 1 + d.IntN(9)
		buyers := make([]buyer, n)
		wake := func(name string, now []int) {
			for _, task := range now {
				come(task, name)
				buyers[task].held++
				r.Wake(task)
			}
		}
		for task := range buyers {
			b := &buyers[task]
			for _, name := range order {
				if d.IntN(2) == 0 {
					b.wants = append(b.wants, name)
				}
			}
			r.Add(func() bool {
				if b.held == len(b.wants) {
					for _, name := range b.wants {
						inside[name] -= weight(task)
						now, _ := x.Give(task, name)
						wake(name, now)
					}
					return false
				}
				name := b.wants[b.held]
				ok, e := x.Take(task, name, shared(task))
				if e != api.OK {
					t.Fatal(task, e)
				}
				if !ok {
					return r.Block(task)
				}
				come(task, name)
				b.held++
				return true
			})
		}
		for range 1000 { // far more steps than they need
			r.Step(d.IntN(20))
		}
		if tasks, _ := r.Left(); tasks != 0 {
			t.Fatal(tasks, "have not ended")
		}
	}
}
