package search

import (
	"cmp"
	"slices"
)

// fewLearnt is how many learnt clauses are not too many at first, and how many
// more it may be each time that some have been deleted.
const fewLearnt = 100

// forget deletes the less busy half of the learnt clauses, if there are too
// many. More may stay each time: a search that forgets too much does again and
// again what it has done.
func (s *solver) forget() error {
	if s.clauses.learnt <= s.most {
		return nil
	}
	s.most += fewLearnt
	s.findIdle()
	for _, at := range s.idle[:len(s.idle)/2] {
		if err := s.proof.delete(s.clauses.literals(at)); err != nil {
			return err
		}
		s.clauses.delete(at)
	}
	s.clauses.rest()
	s.unwatch()
	// Not each time: all that know where a clause is must be told.
	if s.clauses.waste > len(s.clauses.numbers)/2 {
		s.shorten()
	}
	return nil
}

// findIdle finds the learnt clauses that may be deleted, the less busy ones
// first. A clause that made a literal true is needed as long as that is so.
func (s *solver) findIdle() {
	s.idle = s.idle[:0]
	for at := 0; at < len(s.clauses.numbers); at = s.clauses.behind(at) {
		if s.clauses.kind(at) == learnt && s.clauses.size(at) > 2 && !s.trail.isReason(at, s.clauses.literals(at)[0]) {
			s.idle = append(s.idle, at)
		}
	}
	slices.SortFunc(s.idle, s.compareIdle)
}

func (s *solver) compareIdle(a, b int) int {
	return cmp.Or(
		cmp.Compare(s.clauses.busy(a), s.clauses.busy(b)),
		cmp.Compare(s.clauses.size(b), s.clauses.size(a)),
		cmp.Compare(a, b),
	)
}

// unwatch has deleted clauses watch nothing any more.
func (s *solver) unwatch() {
	for literal, watchers := range s.watchers {
		s.watchers[literal] = slices.DeleteFunc(watchers, s.isDeleted)
	}
}

func (s *solver) isDeleted(at int) bool {
	return s.clauses.kind(at) == deleted
}

// shorten makes the list of clauses shorter, and tells all who know where a
// clause was where it is now.
func (s *solver) shorten() {
	now := s.clauses.shorten()
	for _, watchers := range s.watchers {
		for i, at := range watchers {
			watchers[i] = now(at)
		}
	}
	for _, literal := range s.trail.literals {
		v := variableOf(literal)
		if s.trail.reason[v] != none {
			s.trail.reason[v] = now(s.trail.reason[v])
		}
	}
}
