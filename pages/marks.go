package pages

import (
	"iter"
	"math/bits"
	"sync/atomic"
)

// marks is which pages are of some kind: a digit for each page, and a number of digits for each sheet.
type marks [sheets]atomic.Uint64

// put marks a page, or takes its mark away.
func (m *marks) put(n int, on bool) {
	digit := uint64(1) << (n % perSheet)
	if on {
		m[n/perSheet].Or(digit)
	} else {
		m[n/perSheet].And(^digit)
	}
}

// clear takes all marks away.
func (m *marks) clear() {
	for k := range m {
		m[k].Store(0)
	}
}

// count is how many pages are marked.
func (m *marks) count() int {
	sum := 0
	for k := range m {
		sum += bits.OnesCount64(m[k].Load())
	}
	return sum
}

// first is the least page that is marked, if there is one.
func (m *marks) first() (n int, some bool) {
	for n := range m.all() {
		return n, true
	}
	return 0, false
}

// all is the pages that are marked, rising.
func (m *marks) all() iter.Seq[int] {
	return func(yield func(int) bool) {
		for k := range m {
			for n := range marked(k, m[k].Load()) {
				if !yield(n) {
					return
				}
			}
		}
	}
}

// marked is the pages of a sheet whose digits are set, rising.
func marked(k int, digits uint64) iter.Seq[int] {
	return func(yield func(int) bool) {
		for ; digits != 0; digits &= digits - 1 {
			if !yield(k*perSheet + bits.TrailingZeros64(digits)) {
				return
			}
		}
	}
}
