package db

import (
	"container/heap"

	"pantry/api"
)

// spot is a path, as an order goes by it.
type spot struct {
	path  api.Path // "": it is not asked for, and stands as soon as it may
	left  int      // how many of what it refers to do not stand yet
	users []*spot  // those that refer to it
}

// queue is the spots that may stand next, as a heap: the least path first.
type queue []*spot

func (q queue) Len() int           { return len(q) }
func (q queue) Less(i, j int) bool { return q[i].path < q[j].path }
func (q queue) Swap(i, j int)      { q[i], q[j] = q[j], q[i] }
func (q *queue) Push(x any)        { *q = append(*q, x.(*spot)) }
func (q *queue) Pop() any {
	last := len(*q) - 1
	x := (*q)[last]
	*q = (*q)[:last]
	return x
}

// next takes the spot with the least path out.
func (q *queue) next() *spot { return heap.Pop(q).(*spot) }

// Closure is all that some paths refer to, and these, rising.
func (d *DB) Closure(l []api.Path) ([]api.Path, api.Errno) {
	t := d.read()
	asked, e := t.numbers(l)
	if e != api.OK {
		return nil, e
	}
	all, _ := t.reach(asked)
	return t.paths(all), api.OK
}

// Order is valid paths, each behind those that it refers to.
func (d *DB) Order(l []api.Path) ([]api.Path, api.Errno) {
	t := d.read()
	asked, e := t.numbers(l)
	if e != api.OK {
		return nil, e
	}
	q := &queue{}
	q.release(t.spots(asked))
	var out []api.Path
	for q.Len() > 0 {
		s := q.next()
		out = append(out, s.path)
		q.release(s.stand())
	}
	return out, api.OK
}

// numbers is those of paths; ErrNone, if one is not valid.
func (t table) numbers(l []api.Path) ([]int, api.Errno) {
	var numbers []int
	for _, p := range l {
		r, valid := t.record(p)
		if !valid {
			return nil, api.ErrNone
		}
		numbers = append(numbers, r.number)
	}
	return numbers, api.OK
}

// reach is some paths and all that these refer to, by their numbers, each once, and what each one refers to.
func (t table) reach(from []int) (all []int, refs map[int][]int) {
	refs = map[int][]int{}
	for left := from; len(left) > 0; {
		var next []int
		for _, n := range left {
			if _, met := refs[n]; met {
				continue
			}
			refs[n] = t.refs(n)
			all = append(all, n)
			next = append(next, refs[n]...)
		}
		left = next
	}
	return all, refs
}

// spots is those that refer to nothing but themselves, of all that an order goes by.
func (t table) spots(asked []int) []*spot {
	all, refs := t.reach(asked)
	spots := map[int]*spot{}
	for _, n := range all {
		spots[n] = &spot{}
	}
	for _, n := range asked {
		spots[n].path = t.path(n)
	}
	var bare []*spot
	for _, n := range all {
		for _, ref := range refs[n] {
			if ref != n {
				spots[n].left++
				spots[ref].users = append(spots[ref].users, spots[n])
			}
		}
		if spots[n].left == 0 {
			bare = append(bare, spots[n])
		}
	}
	return bare
}

// stand lets a spot stand, and is those of its users that wait for nothing else.
func (s *spot) stand() []*spot {
	var ready []*spot
	for _, user := range s.users {
		if user.left--; user.left == 0 {
			ready = append(ready, user)
		}
	}
	return ready
}

// release lets spots that wait for nothing be next, or stand at once if they are not asked for, and so on.
func (q *queue) release(ready []*spot) {
	for len(ready) > 0 {
		last := len(ready) - 1
		s := ready[last]
		ready = ready[:last]
		if s.path != "" {
			heap.Push(q, s)
		} else {
			ready = append(ready, s.stand()...)
		}
	}
}
