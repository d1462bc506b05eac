package drat_test

import (
	"math/big"
	"regexp"
	"slices"
	"strings"

	"assay/api"
)

// The form of a line of a proof, but for what a pattern cannot say: that no
// literal is above V.
var lineForm = regexp.MustCompile(`^(d )?((?:-?[1-9][0-9]* )*)0\n$`)

// checking is all that Check answers.
type checking struct {
	line int
	err  api.Errno
}

// checker is a second checker, against which Check is held. It does what the
// document says word for word, with lists, and from the start each time.
type checker struct {
	vars  int
	there [][]int
	lines int
	ended bool
}

func referenceCheck(text, proof string) checking {
	first := reference(text)
	if first.err != api.OK {
		return checking{0, first.err}
	}
	c := &checker{vars: first.vars, there: first.clauses}
	for _, line := range strings.SplitAfter(proof, "\n") {
		if line == "" { // behind the last newline
			break
		}
		if err := c.take(line); err != api.OK {
			return checking{c.lines, err}
		}
		if c.ended {
			return checking{c.lines, api.OK}
		}
	}
	return checking{c.lines, api.ErrOpen}
}

// take looks at the next line.
func (c *checker) take(line string) api.Errno {
	c.lines++
	parts := lineForm.FindStringSubmatch(line)
	if parts == nil {
		return api.ErrProof
	}
	var clause []int
	for _, token := range strings.Fields(parts[2]) {
		number := bigNumber(token)
		if number.CmpAbs(big.NewInt(int64(c.vars))) > 0 {
			return api.ErrProof
		}
		clause = append(clause, int(number.Int64()))
	}
	if parts[1] == "" {
		return c.add(clause)
	}
	return c.remove(clause)
}

func (c *checker) add(clause []int) api.Errno {
	if !c.isRUP(clause) && !c.isRAT(clause) {
		return api.ErrStep
	}
	c.there = append(c.there, clause)
	c.ended = c.ended || len(clause) == 0
	return api.OK
}

func (c *checker) remove(clause []int) api.Errno {
	same := func(other []int) bool { return isWithin(clause, other) && isWithin(other, clause) }
	at := slices.IndexFunc(c.there, same)
	if at < 0 {
		return api.ErrStep
	}
	c.there = slices.Delete(slices.Clone(c.there), at, at+1)
	return api.OK
}

func isWithin(a, b []int) bool {
	return !slices.ContainsFunc(a, func(literal int) bool { return !slices.Contains(b, literal) })
}

func (c *checker) isRUP(clause []int) bool {
	return c.conflicts(opposites(clause))
}

func (c *checker) isRAT(clause []int) bool {
	if len(clause) == 0 {
		return false
	}
	first := clause[0]
	for _, other := range c.there {
		if !slices.Contains(other, -first) {
			continue
		}
		rest := slices.DeleteFunc(slices.Clone(other), func(literal int) bool { return literal == -first })
		if !c.conflicts(append(opposites(clause), opposites(rest)...)) {
			return false
		}
	}
	return true
}

func opposites(clause []int) []int {
	var list []int
	for _, literal := range clause {
		list = append(list, -literal)
	}
	return list
}

// conflicts lays literals down and spreads.
func (c *checker) conflicts(laid []int) bool {
	var down []int
	for _, literal := range laid {
		if slices.Contains(down, -literal) {
			return true
		}
		down = append(down, literal)
	}
	for again := true; again; {
		again = false
		for _, clause := range c.there {
			open, met := look(clause, down)
			if met || len(open) > 1 {
				continue
			}
			if len(open) == 0 {
				return true
			}
			down = append(down, open[0])
			again = true
		}
	}
	return false
}

// look tells which literals of a clause are neither true nor false, each
// once, and whether one is true.
func look(clause, down []int) (open []int, met bool) {
	for _, literal := range clause {
		switch {
		case slices.Contains(down, literal):
			return nil, true
		case !slices.Contains(down, -literal) && !slices.Contains(open, literal):
			open = append(open, literal)
		}
	}
	return open, false
}
