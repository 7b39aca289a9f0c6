package locks

import (
	"cmp"
	"slices"
	"sync"
	"sync/atomic"

	"pantry/api"
)

// Run is tasks that go step by step.
type Run struct {
	jobs  []*job // those that have not ended, by their numbers
	next  int    // the number that the next one gets
	busy  bool   // a step is being done
	steps atomic.Int64
}

// job is a task of a Run.
type job struct {
	number  int
	step    func() bool
	blocked bool
	end     sync.Once
}

// NewRun is one without a task.
func NewRun() *Run { return &Run{} }

// Add is a task more; its number.
func (r *Run) Add(step func() bool) int {
	if r == nil || step == nil || len(r.jobs) >= api.MaxTasks {
		return -1
	}
	x := &job{number: r.next, step: step}
	r.jobs = append(r.jobs, x)
	r.next++
	return x.number
}

// Block lets a task not be picked.
func (r *Run) Block(task int) bool { return r.mark(task, true) }

// Wake lets it be picked again.
func (r *Run) Wake(task int) bool { return r.mark(task, false) }

// Step lets the picked one of those that can go do a step.
func (r *Run) Step(pick int) (int, bool) {
	if r == nil || r.busy {
		return -1, false
	}
	ready := r.ready()
	if len(ready) == 0 {
		return -1, false
	}
	x := ready[max(pick, 0)%len(ready)]
	r.do(x)
	return x.number, true
}

// Left is how many have not ended, and how many steps were done.
func (r *Run) Left() (tasks, steps int) {
	if r == nil {
		return 0, 0
	}
	return len(r.jobs), int(r.steps.Load())
}

// mark lets a task be blocked or not; whether it is there.
func (r *Run) mark(number int, blocked bool) bool {
	if r == nil {
		return false
	}
	i, ok := slices.BinarySearchFunc(r.jobs, number, func(x *job, n int) int { return cmp.Compare(x.number, n) })
	if ok {
		r.jobs[i].blocked = blocked
	}
	return ok
}

// ready is those that can go, by their numbers.
func (r *Run) ready() []*job {
	var ready []*job
	for _, x := range r.jobs {
		if !x.blocked {
			ready = append(ready, x)
		}
	}
	return ready
}

// do lets a task do a step.
func (r *Run) do(x *job) {
	more := false
	r.busy = true
	defer func() {
		// A step that panics says nothing more: its task ends as if it had said false.
		_ = recover()
		r.busy = false
		r.steps.Add(1)
		if !more {
			x.end.Do(func() { r.drop(x) })
		}
	}()
	more = x.step()
}

// drop forgets a task that has ended.
func (r *Run) drop(x *job) {
	r.jobs = slices.DeleteFunc(r.jobs, func(y *job) bool { return y == x })
}
