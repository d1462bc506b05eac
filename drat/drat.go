// Package drat: reading clauses and checking proofs: see DOC.md, P3 and P4.
package drat

import (
	"strconv"
	"strings"

	"assay/api"
)

// Read reads clauses (P3).
func Read(text string) (int, [][]int, api.Errno) {
	if len(text) > api.MaxText {
		return 0, nil, api.ErrLimit
	}
	found, ok := parse(text)
	if !ok {
		return 0, nil, api.ErrForm
	}
	if isAbove(found.vars, strconv.Itoa(api.MaxVars)) || found.literals > api.MaxLiterals {
		return 0, nil, api.ErrLimit
	}
	return toInt(found.vars), makeClauses(found), api.OK
}

// Check checks a proof (P4).
func Check(text string, proof string) (int, api.Errno) {
	vars, clauses, err := Read(text)
	if err != api.OK {
		return 0, err
	}
	there := newStore(clauses)
	lines := 0
	for rest := proof; rest != ""; {
		line, behind, ended := strings.Cut(rest, "\n")
		lines++
		next, ok := parseStep(line, strconv.Itoa(vars))
		if !ended || !ok {
			return lines, api.ErrProof
		}
		if !there.take(next) {
			return lines, api.ErrStep
		}
		if next.ends() {
			return lines, api.OK
		}
		rest = behind
	}
	return lines, api.ErrOpen
}
