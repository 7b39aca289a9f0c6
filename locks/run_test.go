package locks_test

import (
	"errors"
	"math"
	"slices"
	"testing"

	"pantry/api"
	"pantry/locks"
)

// forever and once are steps: of a task that never ends, and of one that ends with its first.
func forever() bool { return true }
func once() bool    { return false }

// runOf is a Run of so many tasks that never end.
func runOf(t *testing.T, n int) *locks.Run {
	t.Helper()
	r := locks.NewRun()
	for want := range n {
		adds(t, r, forever, want)
	}
	return r
}

// adds asks what Add answers.
func adds(t *testing.T, r *locks.Run, step func() bool, want int) {
	t.Helper()
	if got := r.Add(step); got != want {
		t.Errorf("Add: %d, want %d", got, want)
	}
}

// picks asks what Step answers: a task's number, or -1.
func picks(t *testing.T, r *locks.Run, pick, want int) {
	t.Helper()
	if got, ok := r.Step(pick); got != want || ok != (want >= 0) {
		t.Errorf("Step(%d): %d, %v, want %d", pick, got, ok, want)
	}
}

// left asks what Left answers.
func left(t *testing.T, r *locks.Run, tasks, steps int) {
	t.Helper()
	if gotTasks, gotSteps := r.Left(); gotTasks != tasks || gotSteps != steps {
		t.Errorf("Left: %d, %d, want %d, %d", gotTasks, gotSteps, tasks, steps)
	}
}

// P12.4: which one is picked, and that it does the step.
func TestPicks(t *testing.T) {
	r := locks.NewRun()
	var did []int
	for task := range 3 {
		adds(t, r, func() bool { did = append(did, task); return true }, task)
	}
	all := [][2]int{{0, 0}, {1, 1}, {2, 2}, {3, 0}, {4, 1}, {5, 2}, {300, 0}, {-1, 0}, {-2, 0}, {-4, 0}, {math.MinInt, 0}, {math.MaxInt, math.MaxInt % 3}}
	for i, x := range all {
		picks(t, r, x[0], x[1])
		if len(did) != i+1 || did[i] != x[1] {
			t.Fatalf("Step(%d): %v did steps", x[0], did)
		}
		left(t, r, 3, i+1)
	}
}

// P12.4: a Run without a task.
func TestEmptyRun(t *testing.T) {
	var made locks.Run
	for _, r := range []*locks.Run{locks.NewRun(), &made} {
		for _, pick := range []int{-1, 0, 1, math.MaxInt, math.MinInt} {
			picks(t, r, pick, -1)
		}
		left(t, r, 0, 0)
		for _, task := range []int{-1, 0, 1} {
			if r.Block(task) || r.Wake(task) {
				t.Error(task)
			}
		}
		adds(t, r, once, 0)
		picks(t, r, 0, 0)
		left(t, r, 0, 1)
		adds(t, r, once, 1)
	}
}

// P12.4: tasks end at any place; the others keep their numbers, and no number is given anew.
func TestEnds(t *testing.T) {
	for _, end := range []int{0, 2, 4} {
		r := locks.NewRun()
		for task := range 5 {
			adds(t, r, func() bool { return task != end }, task)
		}
		picks(t, r, end, end)
		left(t, r, 4, 1)
		if r.Block(end) || r.Wake(end) {
			t.Error(end, "has ended")
		}
		rest := slices.DeleteFunc([]int{0, 1, 2, 3, 4}, func(task int) bool { return task == end })
		for pick, want := range append(rest, rest...) {
			picks(t, r, pick, want)
		}
		adds(t, r, once, 5)
		picks(t, r, 4, 5)
		adds(t, r, forever, 6)
		picks(t, r, 4, 6)
		left(t, r, 5, 11)
	}
}

// P12.4: a task ends with the step that says false, not ahead of it.
func TestStepsOfATask(t *testing.T) {
	r := locks.NewRun()
	n := 0
	adds(t, r, func() bool { n++; return n < 4 }, 0)
	for step := 1; step <= 4; step++ {
		left(t, r, 1, step-1)
		picks(t, r, 7, 0)
	}
	left(t, r, 0, 4)
	picks(t, r, 7, -1)
	left(t, r, 0, 4)
	if n != 4 {
		t.Error(n, "steps")
	}
}

// P12.4: a step that panics, with whatever it does, ends its task and no other one.
func TestPanics(t *testing.T) {
	var nothing func() bool
	var no []int
	all := []func() bool{
		func() bool { panic("a text") },
		func() bool { panic(errors.New("an error")) },
		func() bool { panic(nil) },
		func() bool { panic(api.ErrArg) },
		func() bool { return nothing() },
		func() bool { return no[len(no)] == 0 },
		func() bool { return 1/len(no) == 0 },
		func() bool { defer func() { panic("once more") }(); panic("a text") },
	}
	r := locks.NewRun()
	for want, step := range all {
		adds(t, r, step, want)
	}
	adds(t, r, forever, len(all))
	for i := range all {
		picks(t, r, 0, i)
		left(t, r, len(all)-i, i+1)
		if r.Block(i) || r.Wake(i) {
			t.Error(i, "has ended")
		}
	}
	picks(t, r, 0, len(all))
	left(t, r, 1, len(all)+1)
}

// P12.4: what a step did ahead of its panic stays.
func TestPanicKeeps(t *testing.T) {
	r := runOf(t, 2)
	r.Add(func() bool {
		r.Block(0)
		adds(t, r, once, 3)
		picks(t, r, 0, -1)
		panic("x")
	})
	picks(t, r, 2, 2)
	left(t, r, 3, 1)
	picks(t, r, 2, 1)
	picks(t, r, 1, 3)
	left(t, r, 2, 3)
}

// P12.4: Block and Wake, of what is there, is blocked already or not at all, and has ended.
func TestBlockAndWake(t *testing.T) {
	r := runOf(t, 4)
	for _, task := range []int{-1, 4, math.MaxInt, math.MinInt} {
		if r.Block(task) || r.Wake(task) {
			t.Error(task)
		}
	}
	does := func(got bool) {
		t.Helper()
		if !got {
			t.Error("it is not there")
		}
	}
	does(r.Wake(1)) // it was not blocked
	does(r.Block(1))
	does(r.Block(1))
	left(t, r, 4, 0)
	for pick, want := range []int{0, 2, 3, 0, 2} {
		picks(t, r, pick, want)
	}
	does(r.Block(0))
	does(r.Block(3))
	picks(t, r, 5, 2)
	does(r.Block(2))
	for _, pick := range []int{-1, 0, 3} {
		picks(t, r, pick, -1)
	}
	left(t, r, 4, 6)
	does(r.Wake(3))
	does(r.Wake(1)) // once is enough, though it was blocked twice
	picks(t, r, 0, 1)
	picks(t, r, 1, 3)
	does(r.Wake(1))
	does(r.Wake(0))
	does(r.Wake(2))
	for pick, want := range []int{0, 1, 2, 3} {
		picks(t, r, pick, want)
	}
	left(t, r, 4, 12)
}

// P12.4: a task that is added is not blocked; one that has ended stays so.
func TestAddBesideBlocked(t *testing.T) {
	r := runOf(t, 1)
	r.Block(0)
	picks(t, r, 0, -1)
	adds(t, r, once, 1)
	picks(t, r, 0, 1)
	if r.Wake(1) {
		t.Error("1 has ended")
	}
	picks(t, r, 0, -1)
	left(t, r, 1, 1)
}

// P12.4: steps that block and wake others and themselves.
func TestStepsBlockAndWake(t *testing.T) {
	r := locks.NewRun()
	adds(t, r, func() bool { return r.Block(1) && r.Block(0) }, 0)
	adds(t, r, func() bool { return !r.Wake(2) }, 1)
	adds(t, r, func() bool { return r.Wake(0) && (r.Wake(1) || true) && !r.Block(7) && !r.Wake(-1) }, 2)
	picks(t, r, 0, 0)
	picks(t, r, 0, 2) // 0 and 1 are blocked
	picks(t, r, 1, 1) // and now they are not; 1 ends
	picks(t, r, 1, 2)
	picks(t, r, 0, 0) // Block(1) says false: it ends
	left(t, r, 1, 5)
	picks(t, r, 0, 2) // Wake(0) says false: it ends
	left(t, r, 0, 6)
}

// P12.4: a step that blocks its own task, which then goes on or ends.
func TestStepBlocksItself(t *testing.T) {
	r := locks.NewRun()
	adds(t, r, func() bool { return r.Block(0) }, 0)
	adds(t, r, func() bool { return !r.Block(1) }, 1)
	adds(t, r, func() bool { return r.Block(2) && r.Wake(2) }, 2)
	adds(t, r, func() bool { r.Block(3); panic("x") }, 3)
	picks(t, r, 0, 0)
	picks(t, r, 0, 1)
	picks(t, r, 1, 3)
	picks(t, r, 0, 2)
	picks(t, r, 0, 2)
	left(t, r, 2, 5)
	for task, there := range []bool{true, false, true, false} {
		if r.Wake(task) != there {
			t.Error(task, there)
		}
	}
	picks(t, r, 0, 0)
	picks(t, r, 0, 2)
}

// P12.4: a step adds tasks, which stand behind it and can go when it is done.
func TestStepAdds(t *testing.T) {
	r := locks.NewRun()
	n := 0
	adds(t, r, func() bool {
		n++
		adds(t, r, once, 2*n)
		adds(t, r, forever, 2*n+1)
		adds(t, r, nil, -1)
		return n < 2
	}, 0)
	adds(t, r, forever, 1)
	picks(t, r, 0, 0)
	left(t, r, 4, 1)
	picks(t, r, 1, 1)
	picks(t, r, 2, 2)
	picks(t, r, 2, 3)
	left(t, r, 3, 4)
	picks(t, r, 3, 0)
	left(t, r, 4, 5)
	picks(t, r, 0, 1)
	picks(t, r, 1, 3)
	picks(t, r, 2, 4)
	left(t, r, 3, 8)
	picks(t, r, 2, 5)
}

// P12.4: Step within a step does nothing, also behind a step that panicked, but another Run is free.
func TestStepWithinStep(t *testing.T) {
	r, other := runOf(t, 2), locks.NewRun()
	adds(t, other, func() bool {
		picks(t, r, 0, -1)
		picks(t, other, 0, -1)
		return r.Block(0)
	}, 0)
	adds(t, r, func() bool {
		for pick := -1; pick < 4; pick++ {
			picks(t, r, pick, -1)
		}
		picks(t, other, 0, 0)
		picks(t, r, 0, -1)
		return true
	}, 2)
	adds(t, r, func() bool { picks(t, r, 0, -1); panic("x") }, 3)
	picks(t, r, 2, 2)
	left(t, r, 4, 1)
	left(t, other, 1, 1)
	picks(t, r, 2, 3)
	picks(t, r, 0, 1)
	picks(t, r, 1, 2)
	left(t, r, 3, 4)
	left(t, other, 1, 2)
}

// P12.4: just MaxTasks tasks, blocked ones too, and one more behind an end.
func TestMaxTasks(t *testing.T) {
	r := runOf(t, 256)
	for range 3 {
		adds(t, r, forever, -1)
	}
	r.Block(100)
	adds(t, r, forever, -1)
	left(t, r, 256, 0)
	picks(t, r, 255, 0)
	picks(t, r, 254, 255)
	r.Wake(100)
	picks(t, r, 255, 255)

	r = runOf(t, 254)
	added := 0
	adds(t, r, func() bool {
		// It has not ended yet, though it will with this step.
		added = r.Add(once)
		return false
	}, 254)
	adds(t, r, func() bool { panic("x") }, 255)
	picks(t, r, 254, 254)
	if added != -1 {
		t.Error(added)
	}
	left(t, r, 255, 1)
	adds(t, r, once, 256)
	adds(t, r, once, -1)
	adds(t, r, nil, -1)
	picks(t, r, 254, 255)
	adds(t, r, forever, 257)
	adds(t, r, forever, -1)
	picks(t, r, 254, 256)
	picks(t, r, 254, 257)
	left(t, r, 255, 4)
}

// P12.4: more tasks than MaxTasks, if others have ended ahead.
func TestManyTasksOfARun(t *testing.T) {
	r := runOf(t, 255)
	for i := range 2000 {
		adds(t, r, once, 255+i)
		adds(t, r, once, -1)
		picks(t, r, 255, 255+i)
		left(t, r, 255, i+1)
	}
}

// P12.4, P12.6: a nil step, a nil Run.
func TestNilRun(t *testing.T) {
	r := runOf(t, 1)
	adds(t, r, nil, -1)
	left(t, r, 1, 0)
	adds(t, r, once, 1) // nil took no number

	var none *locks.Run
	for _, x := range []int{-1, 0, 1} {
		picks(t, none, x, -1)
		if none.Block(x) || none.Wake(x) {
			t.Error(x)
		}
	}
	adds(t, none, forever, -1)
	adds(t, none, nil, -1)
	left(t, none, 0, 0)
}

// Two Runs have nothing in common.
func TestRunsAreApart(t *testing.T) {
	r, other := runOf(t, 3), locks.NewRun()
	picks(t, r, 2, 2)
	left(t, other, 0, 0)
	adds(t, other, forever, 0)
	r.Block(0)
	picks(t, other, 5, 0)
	left(t, r, 3, 1)
}
