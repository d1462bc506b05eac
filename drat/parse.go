package drat

import (
	"slices"
	"strconv"
	"strings"
)

// parsed is a text of clauses that has the form. How many variables there are
// stays in digits: whether a text has the form is asked ahead of the limits,
// and a NUMBER may be longer than any int.
type parsed struct {
	vars     string
	clauses  int
	literals int
	tokens   []string
}

// parse takes a text of clauses apart; the bool says whether it has the form.
func parse(text string) (parsed, bool) {
	rest, ok := skipComments(text)
	if !ok {
		return parsed{}, false
	}
	vars, clauses, body, ok := cutProblem(rest)
	if !ok {
		return parsed{}, false
	}
	found, ok := countTokens(strings.FieldsFunc(body, isGap), vars)
	if !ok || strconv.Itoa(found.clauses) != clauses {
		return parsed{}, false
	}
	return found, true
}

// skipComments answers what follows the comments.
func skipComments(text string) (string, bool) {
	for strings.HasPrefix(text, "c") {
		line, rest, ended := strings.Cut(text, "\n")
		if !ended || line != "c" && !strings.HasPrefix(line, "c ") {
			return "", false
		}
		text = rest
	}
	return text, true
}

// cutProblem takes the line `p cnf V C` off a text: V, C and what follows.
func cutProblem(text string) (vars, clauses, rest string, ok bool) {
	line, rest, ended := strings.Cut(text, "\n")
	numbers, named := strings.CutPrefix(line, "p cnf ")
	vars, clauses, both := strings.Cut(numbers, " ")
	ok = ended && named && both && isNumber(vars) && isNumber(clauses)
	return vars, clauses, rest, ok
}

// countTokens counts the clauses that tokens are, and their literals.
func countTokens(tokens []string, vars string) (parsed, bool) {
	found := parsed{vars: vars, tokens: tokens}
	for _, token := range tokens {
		switch {
		case token == "0":
			found.clauses++
		case isLiteral(token, vars):
			found.literals++
		default:
			return parsed{}, false
		}
	}
	closed := len(tokens) == 0 || tokens[len(tokens)-1] == "0"
	return found, closed
}

// makeClauses makes a list for each clause. Each is made on its own and no
// longer than its clause, so that no two share memory and none has spare room.
func makeClauses(found parsed) [][]int {
	clauses := make([][]int, found.clauses)
	tokens := found.tokens
	for i := range clauses {
		end := slices.Index(tokens, "0")
		clauses[i] = make([]int, end)
		for k, token := range tokens[:end] {
			clauses[i][k] = toInt(token)
		}
		tokens = tokens[end+1:]
	}
	return clauses
}

func isGap(r rune) bool {
	return r == ' ' || r == '\t' || r == '\n'
}

// isNumber tells whether a text is `0`, or digits the first of which is not 0.
func isNumber(text string) bool {
	if text == "" || text[0] == '0' && text != "0" {
		return false
	}
	for i := range len(text) {
		if text[i] < '0' || text[i] > '9' {
			return false
		}
	}
	return true
}

// isLiteral tells whether a token is a literal of one of so many variables.
func isLiteral(token, vars string) bool {
	variable := strings.TrimPrefix(token, "-")
	return isNumber(variable) && variable != "0" && !isAbove(variable, vars)
}

// isAbove holds two NUMBERs of any length against each other. As neither has
// noughts ahead, the longer one is the greater one.
func isAbove(a, b string) bool {
	if len(a) != len(b) {
		return len(a) > len(b)
	}
	return a > b
}

// toInt is for numbers that are known to be within the limits.
func toInt(text string) int {
	n, _ := strconv.Atoi(text)
	return n
}
