package search

// trail is what is assigned, and why.
type trail struct {
	// literals is those that were made true, in their order.
	literals []int
	// spread is how many of them have been spread.
	spread int
	// choices tells how many literals there were ahead of each choice.
	choices []int
	// truth tells by literal: 1 true, -1 false, 0 neither.
	truth []int
	// level tells by variable how many choices there were when it was assigned.
	level []int
	// reason tells by variable which clause made it so; none, if it was chosen.
	// The literal that the clause made true is the first of the clause.
	reason []int
}

func newTrail(vars int) trail {
	return trail{truth: make([]int, 2*vars), level: make([]int, vars), reason: make([]int, vars)}
}

func (t *trail) isTrue(literal int) bool {
	return t.truth[literal] > 0
}

func (t *trail) isFalse(literal int) bool {
	return t.truth[literal] < 0
}

func (t *trail) isOpen(literal int) bool {
	return t.truth[literal] == 0
}

// depth is how many choices have been made.
func (t *trail) depth() int {
	return len(t.choices)
}

// choose makes a literal true that nothing asks for.
func (t *trail) choose(literal int) {
	t.choices = append(t.choices, len(t.literals))
	t.assign(literal, none)
}

// assign makes a literal true.
func (t *trail) assign(literal, reason int) {
	t.literals = append(t.literals, literal)
	t.truth[literal] = 1
	t.truth[opposite(literal)] = -1
	t.level[variableOf(literal)] = t.depth()
	t.reason[variableOf(literal)] = reason
}

// back takes back what was assigned behind so many choices, and answers it.
// What it answers lies where the trail goes on to write.
func (t *trail) back(depth int) []int {
	if depth >= t.depth() {
		return nil
	}
	start := t.choices[depth]
	undone := t.literals[start:]
	for _, literal := range undone {
		t.truth[literal] = 0
		t.truth[opposite(literal)] = 0
	}
	t.literals = t.literals[:start]
	t.choices = t.choices[:depth]
	t.spread = start
	return undone
}

// isReason tells whether a clause with such a first literal made it true.
func (t *trail) isReason(at, first int) bool {
	return t.isTrue(first) && t.reason[variableOf(first)] == at
}
