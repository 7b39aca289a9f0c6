package store

import "pantry/api"

// Written is how many files a store counted.
func Written(s *Store) int { return int(s.written.Load()) }

// Sums is of how many paths a store keeps a digest.
func Sums(s *Store) int { return len(s.sums) }

// Sum is what a store keeps of a path's digest; nil, if that was not reckoned.
func Sum(s *Store, p api.Path) any {
	if x := s.sums[p]; x != nil {
		return x
	}
	return nil
}
