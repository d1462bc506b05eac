package drat_test

import (
	"math/big"
	"regexp"
	"strings"

	"assay/api"
)

// The form of a text of clauses as one pattern, but for what it cannot say:
// that no literal is above V and that there are C clauses.
var form = regexp.MustCompile(`^(?:c(?: [^\n]*)?\n)*` +
	`p cnf (0|[1-9][0-9]*) (0|[1-9][0-9]*)\n` +
	`([ \t\n]*(?:(?:0|-?[1-9][0-9]*)[ \t\n]+)*(?:0|-?[1-9][0-9]*)?)$`)

// reference is a second reader, built from a pattern and big numbers, against
// which Read is held.
func reference(text string) reading {
	if len(text) > api.MaxText {
		return reading{err: api.ErrLimit}
	}
	parts := form.FindStringSubmatch(text)
	if parts == nil {
		return reading{err: api.ErrForm}
	}
	vars, declared := bigNumber(parts[1]), bigNumber(parts[2])
	clauses, literals, ok := referenceClauses(strings.Fields(parts[3]), vars)
	if !ok || declared.Cmp(big.NewInt(int64(len(clauses)))) != 0 {
		return reading{err: api.ErrForm}
	}
	if vars.Cmp(big.NewInt(api.MaxVars)) > 0 || literals > api.MaxLiterals {
		return reading{err: api.ErrLimit}
	}
	return reading{vars: int(vars.Int64()), clauses: clauses}
}

func referenceClauses(tokens []string, vars *big.Int) (clauses [][]int, literals int, ok bool) {
	clause := []int{}
	for _, token := range tokens {
		number := bigNumber(token)
		switch {
		case number.Sign() == 0:
			clauses = append(clauses, clause)
			clause = []int{}
		case number.CmpAbs(vars) > 0:
			return nil, 0, false
		default:
			clause = append(clause, int(number.Int64()))
			literals++
		}
	}
	return clauses, literals, len(clause) == 0
}

func bigNumber(digits string) *big.Int {
	number, _ := new(big.Int).SetString(digits, 10)
	return number
}
