package drat

import "strings"

// step is a line of a proof.
type step struct {
	deletes bool
	set     literals
	// first is the first literal that is written; empty if there is none.
	first literals
}

// parseStep takes a line of a proof apart, which comes without its newline;
// the bool says whether it has the form.
func parseStep(line, vars string) (step, bool) {
	var found step
	rest, deletes := strings.CutPrefix(line, "d ")
	found.deletes = deletes
	for rest != "0" {
		token, behind, blank := strings.Cut(rest, " ")
		if !blank || !isLiteral(token, vars) {
			return step{}, false
		}
		literal := single(toInt(token))
		if found.first.isEmpty() {
			found.first = literal
		}
		found.set = found.set.union(literal)
		rest = behind
	}
	return found, true
}

// ends tells whether a step is the addition of the empty clause.
func (p step) ends() bool {
	return !p.deletes && p.set.isEmpty()
}

// take does a step; it tells whether the step is one that may be done.
func (s *store) take(p step) bool {
	if p.deletes {
		return s.remove(p.set)
	}
	if !s.isRight(p.set, p.first) {
		return false
	}
	s.add(p.set)
	return true
}
