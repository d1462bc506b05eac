package search

// watch has a clause of two literals or more watch its first two.
func (s *solver) watch(at int) {
	for _, literal := range s.clauses.literals(at)[:2] {
		s.watchers[literal] = append(s.watchers[literal], at)
	}
}

// spread makes true what follows from what is assigned. It answers a clause
// all of whose literals are false, or none.
func (s *solver) spread() int {
	for s.trail.spread < len(s.trail.literals) {
		literal := s.trail.literals[s.trail.spread]
		s.trail.spread++
		conflict := s.falsify(opposite(literal))
		if conflict != none {
			return conflict
		}
	}
	return none
}

// falsify goes through the clauses that watch a literal that has become false.
// It answers one all of whose literals are false, or none.
func (s *solver) falsify(literal int) int {
	watchers := s.watchers[literal]
	kept := 0
	conflict := none
	for i, at := range watchers {
		if s.watchesOther(at, literal) {
			continue
		}
		watchers[kept] = at
		kept++
		first := s.clauses.literals(at)[0]
		if s.trail.isOpen(first) {
			s.trail.assign(first, at)
		} else if s.trail.isFalse(first) {
			kept += copy(watchers[kept:], watchers[i+1:])
			conflict = at
			break
		}
	}
	s.watchers[literal] = watchers[:kept]
	return conflict
}

// watchesOther has a clause watch another literal in place of a false one; it
// tells whether there is one. If there is none, or the clause is met, the
// false one becomes the second literal.
func (s *solver) watchesOther(at, literal int) bool {
	literals := s.clauses.literals(at)
	if literals[0] == literal {
		literals[0], literals[1] = literals[1], literals[0]
	}
	if s.trail.isTrue(literals[0]) {
		return false
	}
	for i := 2; i < len(literals); i++ {
		other := literals[i]
		if !s.trail.isFalse(other) {
			literals[1], literals[i] = other, literal
			s.watchers[other] = append(s.watchers[other], at)
			return true
		}
	}
	return false
}
