package search

import (
	"slices"

	"assay/luby"
	"assay/sink"
)

// solver tries values for the variables, and learns a clause from each
// conflict.
type solver struct {
	proof   proof
	clauses clauses
	// watchers tells by literal which clauses watch it. A clause watches its
	// first two literals.
	watchers [][]int
	trail    trail
	order    *order
	// last tells by variable which of its literals was true last.
	last []int
	// broken is so, if the clauses of the text clash without any spreading.
	broken bool
	lesson lesson
	// most is how many learnt clauses are not yet too many.
	most int
	// idle is which learnt clauses may be deleted.
	idle []int
	// runs is how often the search has begun anew, and left how many
	// conflicts it may come to before it does so again.
	runs, left int
}

// The search begins anew after so many conflicts times a number of Luby's.
const runUnit = 50

func newSolver(vars int, lists [][]int, out sink.Sink) *solver {
	s := &solver{
		proof:    proof{out: out},
		watchers: make([][]int, 2*vars),
		trail:    newTrail(vars),
		order:    newOrder(vars),
		last:     make([]int, vars),
		lesson:   newLesson(vars),
		most:     fewLearnt,
	}
	for v := range vars {
		s.last[v] = literalOf(-(v + 1))
	}
	for _, list := range lists {
		s.give(list)
	}
	s.begin()
	return s
}

// give takes a clause of the text in.
func (s *solver) give(list []int) {
	literals := make([]int, len(list))
	for i, written := range list {
		literals[i] = literalOf(written)
	}
	slices.Sort(literals)
	literals = slices.Compact(literals)
	if isAlwaysMet(literals) {
		return
	}
	at := s.clauses.add(literals, given)
	switch {
	case len(literals) >= 2:
		s.watch(at)
	case len(literals) == 0 || s.trail.isFalse(literals[0]):
		s.broken = true
	case s.trail.isOpen(literals[0]):
		s.trail.assign(literals[0], at)
	}
}

// isAlwaysMet tells whether a literal and its opposite are among literals that
// are sorted: they are neighbours then.
func isAlwaysMet(literals []int) bool {
	for i := 1; i < len(literals); i++ {
		if literals[i] == opposite(literals[i-1]) {
			return true
		}
	}
	return false
}

// step spreads, and then does what is next: it learns, begins anew or tries a
// value. It answers what the search has come to.
func (s *solver) step() (int, error) {
	conflict := s.spread()
	switch {
	case s.broken || conflict != none && s.trail.depth() == 0:
		return never, s.proof.add(nil)
	case conflict != none:
		return going, s.learn(conflict)
	case s.left <= 0:
		s.begin()
		return going, nil
	case s.tryValue():
		return going, nil
	}
	return met, nil
}

// begin begins the search anew, with all that was learnt.
func (s *solver) begin() {
	s.back(0)
	s.runs++
	s.left = runUnit * luby.Number(s.runs)
}

// tryValue gives the busiest open variable the value that it had last; it tells
// whether there was one.
func (s *solver) tryValue() bool {
	for {
		v, ok := s.order.next()
		if !ok {
			return false
		}
		if s.trail.isOpen(s.last[v]) {
			s.trail.choose(s.last[v])
			return true
		}
	}
}

// back takes back what was assigned behind so many choices.
func (s *solver) back(depth int) {
	for _, literal := range s.trail.back(depth) {
		v := variableOf(literal)
		s.last[v] = literal
		s.order.wait(v)
	}
}

// values is what the variables are when all are assigned.
func (s *solver) values() []bool {
	values := make([]bool, len(s.last))
	for v := range values {
		values[v] = s.trail.isTrue(literalOf(v + 1))
	}
	return values
}
