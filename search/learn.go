package search

import "slices"

// lesson is the clause that a conflict teaches, while it is made.
type lesson struct {
	literals []int
	// seen tells by variable whether it was looked at.
	seen []bool
	// follows tells by variable of earlier choices whether its value follows
	// from those of the lesson.
	follows []bool
}

func newLesson(vars int) lesson {
	return lesson{seen: make([]bool, vars), follows: make([]bool, vars)}
}

// learn learns a clause from a conflict, and goes back as far as that clause
// still makes a literal true.
func (s *solver) learn(conflict int) error {
	s.left--
	s.explain(conflict)
	s.simplify()
	depth := s.putSecond()
	literals := s.lesson.literals
	if err := s.proof.add(literals); err != nil {
		return err
	}
	s.back(depth)
	at := s.clauses.add(literals, learnt)
	if len(literals) >= 2 {
		s.watch(at)
	}
	s.trail.assign(literals[0], at)
	s.order.age()
	return s.forget()
}

// explain goes back from a conflict, from clause to clause that made a literal
// true, until one literal alone of the last choice and what followed it stands
// for the conflict. The lesson is the opposite of that one and of those of
// earlier choices.
func (s *solver) explain(conflict int) {
	clear(s.lesson.seen)
	s.lesson.literals = append(s.lesson.literals[:0], none)
	open := s.look(conflict)
	for i := len(s.trail.literals) - 1; ; i-- {
		literal := s.trail.literals[i]
		v := variableOf(literal)
		if !s.lesson.seen[v] {
			continue
		}
		if open == 1 {
			s.lesson.literals[0] = opposite(literal)
			return
		}
		more := s.look(s.trail.reason[v])
		open += more - 1
	}
}

// look marks the variables of a clause as seen. It lays those of its literals
// that are new to the lesson, and answers how many it left out, as they belong
// to the last choice.
func (s *solver) look(at int) int {
	s.clauses.use(at)
	open := 0
	for _, literal := range s.clauses.literals(at) {
		v := variableOf(literal)
		if s.lesson.seen[v] || s.trail.level[v] == 0 {
			continue
		}
		s.lesson.seen[v] = true
		s.order.use(v)
		if s.trail.level[v] == s.trail.depth() {
			open++
		} else {
			s.lesson.literals = append(s.lesson.literals, literal)
		}
	}
	return open
}

// simplify takes those literals out of the lesson that are false because
// others of it are. What was seen of earlier choices is in the lesson, and what
// makes a literal true is ahead of it on the trail.
func (s *solver) simplify() {
	last := s.trail.choices[s.trail.depth()-1]
	for _, literal := range s.trail.literals[:last] {
		v := variableOf(literal)
		s.lesson.follows[v] = s.lesson.seen[v] || s.isForced(literal)
	}
	kept := slices.DeleteFunc(s.lesson.literals[1:], s.isForced)
	s.lesson.literals = s.lesson.literals[:1+len(kept)]
}

// isForced tells whether the clause that gave a literal its value did so by
// others alone that follow.
func (s *solver) isForced(literal int) bool {
	at := s.trail.reason[variableOf(literal)]
	if at == none {
		return false
	}
	for _, other := range s.clauses.literals(at)[1:] {
		if !s.lesson.follows[variableOf(other)] {
			return false
		}
	}
	return true
}

// putSecond puts a literal of the last choice of the others second, so that it
// is watched, and answers the depth of that choice.
func (s *solver) putSecond() int {
	depth := 0
	literals := s.lesson.literals
	for i := 1; i < len(literals); i++ {
		level := s.trail.level[variableOf(literals[i])]
		if level > depth {
			depth = level
			literals[1], literals[i] = literals[i], literals[1]
		}
	}
	return depth
}
