package drat

// isRight tells whether an addition is right: by RUP, or else by RAT on its
// first literal, which is the empty set if the addition has none.
func (s *store) isRight(addition, first literals) bool {
	if s.hasEmpty() {
		return true
	}
	down, conflict := s.spread(literals{}, s.units.union(addition.opposites()))
	if conflict {
		return true
	}
	return !first.isEmpty() && s.isRightByOthers(down, first.opposites())
}

// isRightByOthers tells whether each clause with the given literal comes to a
// conflict, if the opposites of its other literals are laid down too. What the
// addition alone has come to stays down, as order does not matter.
func (s *store) isRightByOthers(down, literal literals) bool {
	for _, c := range s.clauses {
		if c.times == 0 || !c.set.meets(literal) {
			continue
		}
		if _, conflict := s.spread(down, c.set.without(literal).opposites()); !conflict {
			return false
		}
	}
	return true
}

// spread lays literals down beside those that are down and have been spread,
// and answers what is down then, and whether it came to a conflict.
//
// Nothing has to be undone in the clauses afterwards: a clause goes on to
// watch a false literal only where another of its literals was made true
// within the same call or ahead of it, and is thus forgotten no sooner.
func (s *store) spread(down, laid literals) (literals, bool) {
	pending := laid.without(down)
	down = down.union(laid)
	if down.clashes() {
		return down, true
	}
	for !pending.isEmpty() {
		literal := pending.one()
		pending = pending.without(literal)
		forced, conflict := s.falsify(literal.opposites(), down)
		if conflict {
			return down, true
		}
		pending = pending.union(forced)
		down = down.union(forced)
	}
	return down, false
}

// falsify goes through the clauses that watch a literal that has become false.
// It answers the literals that they make true, and whether one is a conflict.
func (s *store) falsify(literal, down literals) (forced literals, conflict bool) {
	place := literal.place()
	watchers := s.watchers[place]
	kept := 0
	for i, at := range watchers {
		c := &s.clauses[at]
		free := c.set.without(down.opposites())
		if c.times > 0 && !c.set.meets(down) {
			switch free.size() {
			case 0:
				kept += copy(watchers[kept:], watchers[i:])
				s.watchers[place] = watchers[:kept]
				return forced, true
			case 1:
				forced = forced.union(free)
				down = down.union(free)
			default:
				c.watched = c.watched.without(literal)
				s.watch(at, free.without(c.watched).one())
				continue
			}
		}
		watchers[kept] = at
		kept++
	}
	s.watchers[place] = watchers[:kept]
	return forced, false
}
