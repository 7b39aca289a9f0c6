package locks

import "slices"

// lock is one that somebody holds.
type lock struct {
	name    string
	holders map[int]*asker // by their numbers
	shared  bool           // whether those who hold it share it
	row     []*asker       // those who wait for it, in the order in which they asked
}

// lets tells whether one more may hold it.
func (l *lock) lets(shared bool) bool {
	return len(l.holders) == 0 || l.shared && shared
}

// hold lets a task hold it.
func (l *lock) hold(x *asker, shared bool) {
	l.holders[x.number] = x
	l.shared = shared
	x.held[l.name] = l
}

// goOn lets the first of the row hold it, as long as they may: those, in order.
func (l *lock) goOn() []int {
	var now []int
	for len(l.row) > 0 && l.lets(l.row[0].shares) {
		x := l.row[0]
		l.row = l.row[1:]
		x.waits = nil
		l.hold(x, x.shares)
		now = append(now, x.number)
	}
	return now
}

// without lets a task stand in the row no more; the tasks that hold it now and did not.
func (l *lock) without(x *asker) []int {
	i := slices.Index(l.row, x)
	l.row = slices.Delete(l.row, i, i+1)
	return l.goOn()
}
