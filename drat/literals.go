package drat

import (
	"math/bits"

	"assay/api"
)

// Every variable has a bit in a word: this does not compile if there may be
// more variables than bits.
const _ = uint(64 - api.MaxVars)

// literals is a set of literals: the variables that are said to be true, and
// those that are said to be false, a bit each. As sets, two clauses that a
// deletion takes for the same are equal.
type literals struct {
	yes, no uint64
}

// setOf makes a set of a list of literals.
func setOf(list []int) literals {
	var set literals
	for _, literal := range list {
		set = set.union(single(literal))
	}
	return set
}

// single is the set of one literal.
func single(literal int) literals {
	if literal < 0 {
		return literals{no: 1 << (-literal - 1)}
	}
	return literals{yes: 1 << (literal - 1)}
}

func (s literals) union(other literals) literals {
	return literals{s.yes | other.yes, s.no | other.no}
}

func (s literals) without(other literals) literals {
	return literals{s.yes &^ other.yes, s.no &^ other.no}
}

// opposites is the set of the opposites of all literals.
func (s literals) opposites() literals {
	return literals{s.no, s.yes}
}

func (s literals) size() int {
	return bits.OnesCount64(s.yes) + bits.OnesCount64(s.no)
}

func (s literals) isEmpty() bool {
	return s.yes|s.no == 0
}

// meets tells whether two sets have a literal in common.
func (s literals) meets(other literals) bool {
	return s.yes&other.yes|s.no&other.no != 0
}

// clashes tells whether a literal and its opposite are in the set.
func (s literals) clashes() bool {
	return s.yes&s.no != 0
}

// one is a literal of a set that is not empty, as a set of its own.
func (s literals) one() literals {
	if s.yes != 0 {
		return literals{yes: s.yes & -s.yes}
	}
	return literals{no: s.no & -s.no}
}

// place is the number, below places, of the literal of a set of one.
func (s literals) place() int {
	if s.yes != 0 {
		return bits.TrailingZeros64(s.yes)
	}
	return 64 + bits.TrailingZeros64(s.no)
}

// places is how many literals a set can have room for.
const places = 128
