package drat

// store is the clauses that are there.
type store struct {
	clauses []clause
	// index tells where in clauses a clause lies.
	index map[literals]int
	// gone is how many of clauses are there no more: they lie on, for they
	// may come back, until there are too many.
	gone int
	// units are the literals of the clauses of one literal.
	units literals
	// watchers tells, by a literal's place, which clauses watch it.
	watchers [places][]int
}

// clause is a clause of the store. Of two literals or more it watches two:
// as long as neither is false, spreading has nothing to do with it.
type clause struct {
	set     literals
	watched literals
	// times is how often the clause is there: spreading need not see it twice.
	times int
}

func newStore(lists [][]int) *store {
	s := &store{index: make(map[literals]int)}
	for _, list := range lists {
		s.add(setOf(list))
	}
	return s
}

// hasEmpty tells whether the empty clause is there.
func (s *store) hasEmpty() bool {
	at, known := s.index[literals{}]
	return known && s.clauses[at].times > 0
}

// add lays a clause to those that are there.
func (s *store) add(set literals) {
	at, known := s.index[set]
	switch {
	case !known:
		at = s.enter(set)
	case s.clauses[at].times == 0:
		s.gone--
	}
	s.clauses[at].times++
	if set.size() == 1 {
		s.units = s.units.union(set)
	}
}

// enter makes a place for a clause that is new, and says where it is.
func (s *store) enter(set literals) int {
	at := len(s.clauses)
	s.index[set] = at
	s.clauses = append(s.clauses, clause{set: set})
	if set.size() >= 2 {
		first := set.one()
		s.watch(at, first)
		s.watch(at, set.without(first).one())
	}
	return at
}

// watch has a clause watch a literal.
func (s *store) watch(at int, literal literals) {
	s.clauses[at].watched = s.clauses[at].watched.union(literal)
	place := literal.place()
	s.watchers[place] = append(s.watchers[place], at)
}

// remove takes one clause away; it tells whether there was one.
func (s *store) remove(set literals) bool {
	at, known := s.index[set]
	if !known || s.clauses[at].times == 0 {
		return false
	}
	s.clauses[at].times--
	if s.clauses[at].times > 0 {
		return true
	}
	if set.size() == 1 {
		s.units = s.units.without(set)
	}
	s.gone++
	s.tidy()
	return true
}

// tidy makes the store anew without the clauses that are gone. It waits until
// they are more than the others, so that a long proof with many deletions
// pays for it only now and then.
func (s *store) tidy() {
	const few = 100
	if s.gone <= few+len(s.clauses)/2 {
		return
	}
	fresh := store{index: make(map[literals]int), units: s.units}
	for _, c := range s.clauses {
		if c.times > 0 {
			// On its own: the call makes the list longer, and Go leaves open
			// which list a single statement would read.
			at := fresh.enter(c.set)
			fresh.clauses[at].times = c.times
		}
	}
	*s = fresh
}
