package locks_test

import (
	"fmt"
	"math/rand/v2"
	"slices"
	"strings"
	"testing"

	"pantry/api"
	"pantry/locks"
)

// claim is a task that holds a lock or waits for it.
type claim struct {
	task   int
	shared bool
}

// model is what a Table is to be, told as the chapter tells it: lists of claims alone.
type model struct {
	held map[string][]claim // in the order in which they came to hold it
	rows map[string][]claim
}

func newModel() *model { return &model{map[string][]claim{}, map[string][]claim{}} }

func (m *model) holds(task int, name string) bool { return place(m.held[name], task) >= 0 }

func (m *model) waits(task int) (string, bool) {
	for name, row := range m.rows {
		if place(row, task) >= 0 {
			return name, true
		}
	}
	return "", false
}

func place(l []claim, task int) int {
	return slices.IndexFunc(l, func(c claim) bool { return c.task == task })
}

// waitsFor is all whom a task waits for at first hand.
func (m *model) waitsFor(task int) []claim {
	name, ok := m.waits(task)
	if !ok {
		return nil
	}
	row := m.rows[name]
	return append(slices.Clone(m.held[name]), row[:place(row, task)]...)
}

// ring tells whether a task waits for itself through others.
func (m *model) ring(task int) bool {
	seen := map[int]bool{}
	var from func(int) bool
	from = func(at int) bool {
		for _, c := range m.waitsFor(at) {
			if c.task == task {
				return true
			}
			if !seen[c.task] {
				seen[c.task] = true
				if from(c.task) {
					return true
				}
			}
		}
		return false
	}
	return from(task)
}

// lets tells whether one more may hold a lock.
func (m *model) lets(name string, shared bool) bool {
	for _, c := range m.held[name] {
		if !c.shared || !shared {
			return false
		}
	}
	return true
}

func (m *model) take(task int, name string, shared bool) (bool, api.Errno) {
	if task < 0 {
		return false, api.ErrArg
	}
	if _, waits := m.waits(task); waits || m.holds(task, name) {
		return false, api.ErrHas
	}
	c := claim{task, shared}
	if len(m.rows[name]) == 0 && m.lets(name, shared) {
		m.held[name] = append(m.held[name], c)
		return true, api.OK
	}
	m.rows[name] = append(m.rows[name], c)
	if m.ring(task) {
		m.rows[name] = m.rows[name][:len(m.rows[name])-1]
		return false, api.ErrLock
	}
	return false, api.OK
}

// goOn lets the row of a lock go on.
func (m *model) goOn(name string) (now []int) {
	for len(m.rows[name]) > 0 && m.lets(name, m.rows[name][0].shared) {
		c := m.rows[name][0]
		m.rows[name] = m.rows[name][1:]
		m.held[name] = append(m.held[name], c)
		now = append(now, c.task)
	}
	return now
}

func (m *model) give(task int, name string) ([]int, api.Errno) {
	if !m.holds(task, name) {
		return nil, api.ErrNone
	}
	m.held[name] = without(m.held[name], task)
	return m.goOn(name), api.OK
}

func (m *model) leave(task int) (now []int) {
	if name, ok := m.waits(task); ok {
		m.rows[name] = without(m.rows[name], task)
		now = m.goOn(name)
	}
	for _, name := range m.namesOf(task) {
		more, _ := m.give(task, name)
		now = append(now, more...)
	}
	return now
}

// namesOf is the locks that a task holds, rising.
func (m *model) namesOf(task int) (names []string) {
	for name := range m.held {
		if m.holds(task, name) {
			names = append(names, name)
		}
	}
	slices.Sort(names)
	return names
}

// tasks is all who hold something or wait, rising.
func (m *model) tasks() (all []int) {
	for _, lists := range []map[string][]claim{m.held, m.rows} {
		for _, l := range lists {
			for _, c := range l {
				all = append(all, c.task)
			}
		}
	}
	slices.Sort(all)
	return slices.Compact(all)
}

func without(l []claim, task int) []claim {
	return slices.DeleteFunc(slices.Clone(l), func(c claim) bool { return c.task == task })
}

// both is a Table with its model; each call goes to both.
type both struct {
	t *testing.T
	x *locks.Table
	m *model
	// what was called, for the words of a failure
	calls []string
}

func newBoth(t *testing.T) *both { return &both{t: t, x: locks.New(), m: newModel()} }

// failed tells what was not as it is to be, with the last calls.
func (b *both) failed(got, want string) {
	b.t.Helper()
	b.t.Fatalf("%s: got %s, want %s", strings.Join(b.calls[max(0, len(b.calls)-30):], ", "), got, want)
}

func (b *both) take(task int, name string, shared bool) (bool, api.Errno) {
	b.t.Helper()
	b.calls = append(b.calls, fmt.Sprintf("Take(%d, %q, %v)", task, name, shared))
	ok, e := b.x.Take(task, name, shared)
	wantOk, wantE := b.m.take(task, name, shared)
	if ok != wantOk || e != wantE {
		b.failed(fmt.Sprint(ok, e), fmt.Sprint(wantOk, wantE))
	}
	return ok, e
}

func (b *both) give(task int, name string) ([]int, api.Errno) {
	b.t.Helper()
	b.calls = append(b.calls, fmt.Sprintf("Give(%d, %q)", task, name))
	now, e := b.x.Give(task, name)
	wantNow, wantE := b.m.give(task, name)
	if !slices.Equal(now, wantNow) || e != wantE {
		b.failed(fmt.Sprint(now, e), fmt.Sprint(wantNow, wantE))
	}
	return now, e
}

func (b *both) leave(task int) []int {
	b.t.Helper()
	b.calls = append(b.calls, fmt.Sprintf("Leave(%d)", task))
	now, want := b.x.Leave(task), b.m.leave(task)
	if !slices.Equal(now, want) {
		b.failed(fmt.Sprint(now), fmt.Sprint(want))
	}
	return now
}

// same asks for all that some tasks hold of some locks, and what they wait for.
func (b *both) same(tasks []int, names []string) {
	b.t.Helper()
	for _, task := range tasks {
		name, ok := b.x.Waits(task)
		wantName, wantOk := b.m.waits(task)
		if name != wantName || ok != wantOk {
			b.failed(fmt.Sprint("that ", task, " waits for ", name, ok), fmt.Sprint(wantName, wantOk))
		}
		for _, name := range names {
			if got, want := b.x.Holds(task, name), b.m.holds(task, name); got != want {
				b.failed(fmt.Sprint("that ", task, " holds ", name, got), fmt.Sprint(want))
			}
		}
	}
}

// step is a call with what it is to answer.
type step struct {
	kind   int
	task   int
	name   string
	shared bool
	ok     bool
	e      api.Errno
	now    []int
}

const (
	doTake = iota
	doGive
	doLeave
)

// has: it holds the lock at once; waits: it waits; ring: ErrLock; refused: another error.
func has(task int, name string) step    { return step{task: task, name: name, ok: true} }
func shares(task int, name string) step { return step{task: task, name: name, ok: true, shared: true} }
func waits(task int, name string) step  { return step{task: task, name: name} }
func waitsShared(task int, name string) step {
	return step{task: task, name: name, shared: true}
}
func ring(task int, name string) step { return step{task: task, name: name, e: api.ErrLock} }
func ringShared(task int, name string) step {
	return step{task: task, name: name, shared: true, e: api.ErrLock}
}
func refused(task int, name string, e api.Errno) step { return step{task: task, name: name, e: e} }

// gives and leaves answer the tasks that hold something now.
func gives(task int, name string, now ...int) step {
	return step{kind: doGive, task: task, name: name, now: now}
}
func givesNot(task int, name string) step {
	return step{kind: doGive, task: task, name: name, e: api.ErrNone}
}
func leaves(task int, now ...int) step { return step{kind: doLeave, task: task, now: now} }

// played does steps on a new Table, asks each for what it answers, and behind each for all that is told.
func played(t *testing.T, steps ...step) *both {
	t.Helper()
	b := newBoth(t)
	names := []string{"", "zz"}
	tasks := []int{-1, 1 << 40}
	for _, s := range steps {
		names, tasks = append(names, s.name), append(tasks, s.task)
	}
	for _, s := range steps {
		b.done(s)
		b.same(tasks, names)
	}
	return b
}

// done does a step.
func (b *both) done(s step) {
	b.t.Helper()
	switch s.kind {
	case doTake:
		if ok, e := b.take(s.task, s.name, s.shared); ok != s.ok || e != s.e {
			b.failed(fmt.Sprint(ok, e), fmt.Sprint(s.ok, s.e))
		}
	case doGive:
		if now, e := b.give(s.task, s.name); !slices.Equal(now, s.now) || e != s.e {
			b.failed(fmt.Sprint(now, e), fmt.Sprint(s.now, s.e))
		}
	case doLeave:
		if now := b.leave(s.task); !slices.Equal(now, s.now) {
			b.failed(fmt.Sprint(now), fmt.Sprint(s.now))
		}
	}
}

// empty asks whether nobody holds and nobody waits: then each task may have each lock at once.
func (b *both) empty(tasks []int, names []string) {
	b.t.Helper()
	for _, task := range tasks {
		for _, name := range names {
			if ok, e := b.take(task, name, false); !ok || e != api.OK {
				b.failed(fmt.Sprint(ok, e), "true")
			}
		}
		b.leave(task)
	}
}

// rounds is how often something is tried: a tenth of that, if it is to be short.
func rounds(n int) int {
	if testing.Short() {
		return n / 10
	}
	return n
}

func dice(seed uint64) *rand.Rand { return rand.New(rand.NewPCG(seed, 12)) }
