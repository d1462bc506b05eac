// Package search looks for values that meet clauses, and writes a proof while
// it does so.
package search

import "assay/sink"

// What a search has come to.
const (
	going = iota
	met
	never
)

// Run tells whether clauses of so many variables can be met, and by which
// values. If they cannot, what it wrote is a whole proof of it. With the first
// write that fails it ends, with the error of that.
func Run(vars int, lists [][]int, out sink.Sink) ([]bool, bool, error) {
	s := newSolver(vars, lists, out)
	for {
		state, err := s.step()
		switch {
		case err != nil || state == never:
			return nil, false, err
		case state == met:
			return s.values(), true, nil
		}
	}
}
