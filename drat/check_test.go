package drat_test

import (
	"math/rand"
	"slices"
	"strconv"
	"strings"
	"testing"

	"assay/api"
	"assay/drat"
)

// square is the four clauses of the document's example 4.
const square = "p cnf 2 4\n1 2 0 -1 2 0\n1 -2 0 -1 -2 0\n"

func check(text, proof string) checking {
	line, err := drat.Check(text, proof)
	return checking{line, err}
}

func checkProof(t *testing.T, text, proof string, line int, err api.Errno) {
	t.Helper()
	if got, want := check(text, proof), (checking{line, err}); got != want {
		t.Errorf("Check(%.80q, %.80q) = %v, want %v", text, proof, got, want)
	}
}

// checkSame holds Check against the second checker.
func checkSame(t *testing.T, text, proof string) {
	t.Helper()
	want := referenceCheck(text, proof)
	checkProof(t, text, proof, want.line, want.err)
}

// lineOf writes a clause as a line of a proof, or of a text.
func lineOf(clause []int) string {
	var line strings.Builder
	for _, literal := range clause {
		line.WriteString(strconv.Itoa(literal) + " ")
	}
	return line.String() + "0\n"
}

func textOf(vars int, clauses [][]int) string {
	var text strings.Builder
	text.WriteString("p cnf " + strconv.Itoa(vars) + " " + strconv.Itoa(len(clauses)) + "\n")
	for _, clause := range clauses {
		text.WriteString(lineOf(clause))
	}
	return text.String()
}

func TestP4CheckOfTheDocument(t *testing.T) {
	checkProof(t, square, "2 0\n0\n", 2, api.OK)
	checkProof(t, square, "0\n", 1, api.ErrStep)
	checkProof(t, square, "2 0\n", 1, api.ErrOpen)
	checkProof(t, square, "", 0, api.ErrOpen)
	checkProof(t, square, "1 0\nd 1 2 0\n0\n", 3, api.OK)
	checkProof(t, square, "d 2 1 1 0\n2 0\n", 2, api.ErrStep)
	checkProof(t, square, "d 1 0\n", 1, api.ErrStep)
	checkProof(t, square, "2 0\n0\nx", 2, api.OK)
	for _, proof := range []string{"2 0 \n", "2  0\n", "3 0\n"} {
		checkProof(t, square, proof, 1, api.ErrProof)
	}
	checkProof(t, square, "2 0\n0", 2, api.ErrProof)
	const one = "p cnf 3 1\n1 2 0\n"
	checkProof(t, one, "3 1 0\n", 1, api.ErrOpen)
	checkProof(t, one, "1 3 0\n", 1, api.ErrOpen)
	checkProof(t, one, "3 1 0\n-3 0\n", 2, api.ErrStep)
	checkProof(t, one, "-3 0\n", 1, api.ErrOpen)
}

// Read's error comes with 0, whatever the proof is.
func TestP4CheckReadsFirst(t *testing.T) {
	over := "p cnf 1 1\n" + strings.Repeat("1 ", api.MaxLiterals+1) + "0\n"
	long := square + strings.Repeat(" ", api.MaxText)
	for _, proof := range []string{"", "0\n", "x", "x\n", "2 0\n0\n", "d 1 0\n", "2 0\n0", "0\n0\n"} {
		for _, text := range []string{"", "p cnf 1 0", "p cnf 1 1\n2 0\n", "p cnf 1 2\n0\n", "p cnf 51 1\n", "0\n"} {
			checkProof(t, text, proof, 0, api.ErrForm)
		}
		for _, text := range []string{"p cnf 51 0\n", "p cnf 51 1\n0\n", over, long} {
			checkProof(t, text, proof, 0, api.ErrLimit)
		}
	}
}

// wrongLines have not the form of a line, with 12 variables.
var wrongLines = []string{
	"", " ", "  ", " 0", "0 ", "0 0", "00", "-0", "+0", "0\r", "0\t", "\t0", "\r", "\x00", "0\x00", "\xff", "x", "0x", "x0", "c", "c 0", "0 c",
	"1", "1 ", "-1", "12", "1 0 ", "1 0 0", " 1 0", "1  0", "1\t0", "1 \t0", "1\t 0", "1 0\r", "1\r 0", "1,0", "1, 0", "10", "1 00", "1 -0", "1 +0",
	"+1 0", "-+1 0", "+-1 0", "--1 0", "- 1 0", "- 0", "1- 0", "01 0", "-01 0", "001 0", "00 0", "-0 0", "0 1 0", "0 1", "1 0 2 0", "1 0 2",
	"1  2 0", "1 2  0", " 1 2 0", "1 2 0 ", "1 2", "1 2 ", "1 2\t0", "1\v0", "1\f0", "1.0 0", "1e0 0", "0x1 0", "1_0 0", "\u0661 0", "1\u00a00",
	"13 0", "-13 0", "20 0", "100 0", "-100 0", "1 13 0", "13 1 0", "1 -13 2 0",
	"99999999999999999999 0", "-99999999999999999999 0", "18446744073709551617 0", "-18446744073709551615 0", "4294967297 0", "-4294967295 0",
	"9223372036854775808 0", "-9223372036854775808 0", "-9223372036854775809 0", "-9223372036854775807 0", "257 0", "65 0", "-65 0", "51 0", "64 0",
	"d", "d ", "d0", "d1 0", "d-1 0", "d  0", "d  1 0", "d\t0", "d\t1 0", "d 1", "d 1 ", "d 1 0 ", "d 1  0", "d 0 ", "d 0 0", "d 00", "d -0",
	"d 01 0", "d +1 0", "d 13 0", "d -13 0", "d 99999999999999999999 0", "d d 0", "d d 1 0", "dd 1 0", " d 0", " d 1 0", "D 1 0", "D 0", "1 d 0", "1 0 d", "a 1 0", "d 1 0 2 0",
}

const twelve = "p cnf 12 2\n1 2 0\n-12 0\n"

func TestP4CheckFormOfLines(t *testing.T) {
	for _, line := range wrongLines {
		checkProof(t, twelve, line+"\n", 1, api.ErrProof)
		checkProof(t, twelve, "1 2 0\nd 2 1 0\n"+line+"\n0\n", 3, api.ErrProof)
		checkSame(t, twelve, line)
		checkSame(t, twelve, line+"\n"+line+"\n")
	}
	for _, line := range []string{
		"1 2 0", "2 1 0", "1 2 1 2 0", "-12 0", "-12 -12 0", "12 -12 0", "1 2 3 4 5 6 7 8 9 10 11 12 0", "-12 10 0", "d 1 2 0", "d 2 1 0", "d -12 0", "d -12 -12 0",
	} {
		checkProof(t, twelve, line+"\n", 1, api.ErrOpen)
		checkProof(t, twelve, line, 1, api.ErrProof)
	}
	checkProof(t, twelve, "0\n", 1, api.ErrStep)
	checkProof(t, twelve, "d 0\n", 1, api.ErrStep)
	checkProof(t, "p cnf 50 0\n", "50 -49 0\n-50 49 0\n", 2, api.ErrOpen)
	checkProof(t, "p cnf 0 0\n", "1 0\n", 1, api.ErrProof)
	checkProof(t, "p cnf 0 0\n", "d -1 0\n", 1, api.ErrProof)
	checkProof(t, "p cnf 9 0\n", "10 0\n", 1, api.ErrProof)
}

func TestP4CheckNumbersOfAnyLength(t *testing.T) {
	for _, size := range []int{18, 19, 20, 21, 40, 100, 1000, 1000000} {
		noughts, ones := strings.Repeat("0", size), strings.Repeat("1", size)
		for _, number := range []string{ones, "1" + noughts, noughts + "1", noughts} {
			checkProof(t, twelve, number+" 0\n", 1, api.ErrProof)
			checkProof(t, twelve, "1 2 0\nd 1 -"+number+" 0\n", 2, api.ErrProof)
		}
	}
}

// The last line needs its newline, even where the step is right or is wrong.
func TestP4CheckLastNewline(t *testing.T) {
	checkProof(t, square, "2 0\n0", 2, api.ErrProof)
	checkProof(t, square, "0", 1, api.ErrProof)
	checkProof(t, square, "2 0", 1, api.ErrProof)
	checkProof(t, square, "d 1 2 0", 1, api.ErrProof)
	checkProof(t, square, "d 1 0", 1, api.ErrProof)
	checkProof(t, square, "2 0\n\n", 2, api.ErrProof)
	checkProof(t, square, "\n", 1, api.ErrProof)
	checkProof(t, square, "\n\n", 1, api.ErrProof)
	checkProof(t, square, " ", 1, api.ErrProof)
	checkProof(t, "p cnf 1 1\n0\n", "0", 1, api.ErrProof)
}

func TestP4CheckRUP(t *testing.T) {
	const chain = "p cnf 5 5\n-1 2 0 -2 3 0 -3 4 0 -4 5 0 1 2 3 0\n"
	for _, line := range []string{"-1 5 0\n", "5 -1 0\n", "-2 5 0\n", "-1 3 0\n", "3 0\n", "4 0\n", "5 0\n", "2 3 0\n", "5 4 3 0\n", "1 -1 0\n", "-2 1 2 0\n"} {
		checkProof(t, chain, line, 1, api.ErrOpen)
	}
	// These come to no conflict, and a clause is in the way of RAT too.
	for _, line := range []string{"-5 0\n", "-4 -1 0\n", "-3 0\n", "-2 0\n", "1 -5 0\n", "-4 2 0\n", "0\n"} {
		checkProof(t, chain, line, 1, api.ErrStep)
	}
	checkProof(t, "p cnf 50 2\n50 0 -50 49 0\n", "49 0\n-49 0\n", 2, api.ErrStep)
	checkProof(t, "p cnf 50 3\n50 0 -50 49 0 -49 -50 0\n", "0\n", 1, api.OK)
}

// RAT asks for the first literal that is written, and for no other.
func TestP4CheckRATByTheFirstLiteral(t *testing.T) {
	const text = "p cnf 4 2\n-1 2 0 1 3 0\n"
	checkProof(t, text, "-2 0\n", 1, api.ErrStep)
	checkProof(t, text, "4 1 0\n", 1, api.ErrOpen) // none has -4
	checkProof(t, text, "1 4 0\n", 1, api.ErrStep) // -1 2 is in the way
	checkProof(t, text, "1 -2 0\n", 1, api.ErrOpen)
	checkProof(t, text, "-2 1 0\n", 1, api.ErrOpen)
	checkProof(t, text, "-2 4 0\n", 1, api.ErrStep)
	checkProof(t, text, "4 -2 0\n", 1, api.ErrOpen)
	checkProof(t, text, "4 -2 4 0\n", 1, api.ErrOpen)
	checkProof(t, text, "-2 4 -2 0\n", 1, api.ErrStep)
	// Once 4 -2 is there, it is in the way of -4, unless 2 is with it.
	checkProof(t, text, "4 -2 0\n-4 0\n", 2, api.ErrStep)
	checkProof(t, text, "4 -2 0\n-4 2 0\n", 2, api.ErrOpen)
	checkProof(t, text, "4 -2 0\n2 -4 0\n", 2, api.ErrOpen)
	checkProof(t, text, "4 -2 0\nd -2 4 0\n-4 0\n", 3, api.ErrOpen)
}

// Every clause with the opposite counts: it is not enough that one conflicts.
func TestP4CheckRATByEveryClause(t *testing.T) {
	const some = "p cnf 4 3\n-1 -2 0 -1 -3 0 2 3 4 0\n"
	checkProof(t, some, "1 2 3 0\n", 1, api.ErrOpen)
	checkProof(t, some, "1 2 0\n", 1, api.ErrStep)
	checkProof(t, some, "1 3 0\n", 1, api.ErrStep)
	checkProof(t, some, "d -1 -3 0\n1 2 0\n", 2, api.ErrOpen)
	checkProof(t, some, "d -2 -1 0\n1 3 0\n", 2, api.ErrOpen)
	// A clause of one literal is a clause that has it.
	checkProof(t, "p cnf 2 1\n-1 0\n", "1 0\n", 1, api.ErrStep)
	checkProof(t, "p cnf 2 1\n-1 0\n", "1 2 0\n", 1, api.ErrStep)
	checkProof(t, "p cnf 2 1\n-1 0\n", "d -1 0\n1 2 0\n", 2, api.ErrOpen)
	checkProof(t, "p cnf 2 2\n-1 0 -1 0\n", "d -1 0\n1 2 0\n", 2, api.ErrStep)
	// What comes of the addition alone and of the other clause together counts.
	checkProof(t, "p cnf 5 4\n-1 2 0 3 4 0 2 -4 5 0 2 -5 0\n", "1 3 0\n", 1, api.ErrOpen)
	checkProof(t, "p cnf 5 3\n-1 2 0 3 4 0 2 -4 5 0\n", "1 3 0\n", 1, api.ErrStep)
	checkProof(t, "p cnf 5 3\n-1 2 0 2 -4 5 0 2 -5 0\n", "1 3 0\n", 1, api.ErrStep)
}

// The addition is not yet there when it is looked at, and is there behind it.
func TestP4CheckAdditionIsThereBehindItself(t *testing.T) {
	checkProof(t, "p cnf 1 0\n", "1 0\n-1 0\n", 2, api.ErrStep)
	checkProof(t, "p cnf 1 0\n", "-1 0\n1 0\n", 2, api.ErrStep)
	checkProof(t, "p cnf 1 0\n", "1 0\nd 1 0\n-1 0\n", 3, api.ErrOpen)
	checkProof(t, "p cnf 1 0\n", "0\n", 1, api.ErrStep)
	checkProof(t, "p cnf 1 1\n-1 0\n", "1 0\n", 1, api.ErrStep)
}

func TestP4CheckDeletion(t *testing.T) {
	const text = "p cnf 4 4\n1 2 3 0 -1 -1 2 0 4 -4 0 3 0\n"
	for _, line := range []string{
		"d 1 2 3 0\n", "d 3 1 2 0\n", "d 2 2 1 3 3 3 0\n", "d -1 2 0\n", "d 2 -1 0\n", "d -1 2 -1 2 0\n", "d 4 -4 0\n", "d -4 4 0\n", "d 3 0\n", "d 3 3 0\n",
	} {
		checkProof(t, text, line, 1, api.ErrOpen)
		checkProof(t, text, line+line, 2, api.ErrStep)
	}
	for _, line := range []string{
		"d 1 2 0\n", "d 1 2 3 4 0\n", "d -1 -2 -3 0\n", "d 1 2 -3 0\n", "d -1 0\n", "d 1 2 0\n", "d 4 0\n", "d -4 0\n", "d -3 0\n", "d 0\n", "d 1 0\n",
	} {
		checkProof(t, text, line, 1, api.ErrStep)
	}
	// What is gone is not there for spreading, nor in the way of RAT.
	checkProof(t, square, "2 0\nd 2 1 0\nd 2 -1 0\nd 2 0\n2 0\n", 5, api.ErrStep)
	checkProof(t, square, "2 0\nd 2 0\n0\n", 3, api.ErrStep)
	checkProof(t, square, "2 0\nd -2 -1 0\n0\n", 3, api.ErrStep)
	checkProof(t, square, "2 0\nd 1 2 0\nd -1 2 0\n0\n", 4, api.OK)
	checkProof(t, square, "d -1 2 0\nd -1 -2 0\n1 0\nd 1 0\n", 4, api.ErrOpen)
}

func TestP4CheckClauseThereTwice(t *testing.T) {
	const text = "p cnf 2 5\n1 2 0 -1 2 0\n2 1 1 0\n1 -2 0 -1 -2 0\n"
	checkProof(t, text, "d 1 2 0\n2 0\n0\n", 3, api.OK)
	checkProof(t, text, "d 1 2 0\nd 1 2 0\n2 0\n0\n", 3, api.ErrStep)
	checkProof(t, text, "d 1 2 0\nd 2 1 0\nd 1 2 0\n", 3, api.ErrStep)
	checkProof(t, square, "1 2 0\n2 1 0\nd 1 2 0\nd 1 2 0\n2 0\n0\n", 6, api.OK)
	checkProof(t, square, "1 2 0\nd 1 2 0\nd 1 2 0\n2 0\n", 4, api.ErrStep)
	checkProof(t, "p cnf 1 3\n1 0 1 0 -1 0\n", "d 1 0\n0\n", 2, api.OK)
	checkProof(t, "p cnf 1 3\n1 0 1 0 -1 0\n", "d 1 0\nd 1 0\n0\n", 3, api.ErrStep)
	checkProof(t, "p cnf 1 2\n0 0\n", "d 0\n0\n", 2, api.OK)
	checkProof(t, "p cnf 1 2\n0 0\n", "d 0\nd 0\n0\n", 3, api.ErrStep)
}

// Gone and back again: by an addition that is right while it is gone.
func TestP4CheckClauseComesBack(t *testing.T) {
	checkProof(t, square, "2 0\nd 1 2 0\n1 2 0\nd 2 0\n2 0\n0\n", 6, api.OK)
	checkProof(t, square, "2 0\nd 2 0\n2 0\n0\n", 4, api.OK)
	checkProof(t, square, "2 0\nd 2 0\n2 0\nd 2 0\n0\n", 5, api.ErrStep)
	checkProof(t, square, "2 0\nd 2 0\nd 2 0\n", 3, api.ErrStep)
}

func TestP4CheckLiteralTwiceOrWithItsOpposite(t *testing.T) {
	checkProof(t, "p cnf 1 2\n1 1 0\n-1 0\n", "0\n", 1, api.OK)
	checkProof(t, "p cnf 1 2\n1 1 0\n-1 -1 -1 0\n", "0\n", 1, api.OK)
	checkProof(t, "p cnf 2 3\n1 1 2 2 0 -1 -1 2 0 -2 -2 0\n", "0\n", 1, api.OK)
	checkProof(t, square, "2 2 0\n0\n", 2, api.OK)
	checkProof(t, square, "2 2 0\nd 2 0\n0\n", 3, api.ErrStep)
	// A clause with a literal and its opposite is always right and gives nothing ..
	checkProof(t, square, "1 -1 0\n-1 1 0\n0\n", 3, api.ErrStep)
	checkProof(t, "p cnf 2 1\n1 -1 0\n", "0\n", 1, api.ErrStep)
	checkProof(t, "p cnf 2 2\n1 -1 0 2 0\n", "-2 1 -1 0\n", 1, api.ErrOpen)
	checkProof(t, "p cnf 2 2\n1 -1 2 0 -2 0\n", "0\n", 1, api.ErrStep)
	checkProof(t, "p cnf 3 1\n3 0\n", "-3 2 -2 0\n", 1, api.ErrOpen)
	// .. but it is there, and is in the way of RAT.
	checkProof(t, "p cnf 2 1\n1 -1 0\n", "1 0\n", 1, api.ErrStep)
	checkProof(t, "p cnf 2 1\n1 -1 0\n", "1 2 0\n", 1, api.ErrStep)
	checkProof(t, "p cnf 2 1\n1 -1 0\n", "d 1 -1 0\n1 2 0\n", 2, api.ErrOpen)
	checkProof(t, "p cnf 2 1\n1 -1 2 -2 0\n", "1 0\n", 1, api.ErrOpen)
	checkProof(t, "p cnf 2 1\n-1 -1 0\n", "1 0\n", 1, api.ErrStep)
	checkProof(t, "p cnf 2 1\n-1 2 -1 0\n", "1 -2 0\n", 1, api.ErrOpen)
}

func TestP4CheckEmptyClause(t *testing.T) {
	const empty = "p cnf 2 1\n0\n"
	checkProof(t, empty, "0\n", 1, api.OK)
	checkProof(t, empty, "", 0, api.ErrOpen) // the text's own is no addition
	checkProof(t, empty, "1 0\n-1 0\n2 0\n", 3, api.ErrOpen)
	checkProof(t, empty, "1 0\n-1 0\n0\n", 3, api.OK)
	checkProof(t, empty, "d 0\n", 1, api.ErrOpen)
	checkProof(t, empty, "d 0\n0\n", 2, api.ErrStep)
	checkProof(t, empty, "d 0\nd 0\n", 2, api.ErrStep)
	checkProof(t, empty, "d 0\n1 0\n-1 0\n", 3, api.ErrStep)
	checkProof(t, empty, "1 0\n-1 0\nd 0\n0\n", 4, api.OK)
	checkProof(t, "p cnf 0 1\n0\n", "0\n", 1, api.OK)
	checkProof(t, "p cnf 0 0\n", "0\n", 1, api.ErrStep)
	checkProof(t, "p cnf 0 0\n", "", 0, api.ErrOpen)
	checkProof(t, "p cnf 0 0\n", "d 0\n", 1, api.ErrStep)
	checkProof(t, "p cnf 1 2\n1 0 -1 0\n", "0\n", 1, api.OK)
	checkProof(t, "p cnf 1 2\n1 0 -1 0\n", "", 0, api.ErrOpen)
}

func TestP4CheckStopsAtTheEmptyClause(t *testing.T) {
	for _, behind := range []string{"", "x", "\n", "0", "0\n", "0\n0\n", "3 0\n", "d 0\nd 0\n", "d 7 0\n", "-1 0", " ", "\x00", "2  0\n", strings.Repeat("x\n", 100)} {
		checkProof(t, square, "2 0\n0\n"+behind, 2, api.OK)
		checkProof(t, square, "2 0\n2 1 0\nd 1 2 0\n0\n"+behind, 4, api.OK)
	}
	// Only an addition that is right ends it.
	checkProof(t, square, "0\n2 0\n0\n", 1, api.ErrStep)
	checkProof(t, "p cnf 2 1\n0\n", "d 0\n1 0\n0\n", 3, api.ErrStep)
}

// The first wrong line is told, be it wrong in form or as a step.
func TestP4CheckFirstWrongLine(t *testing.T) {
	const form, wrong, gone, right = "x\n", "0\n", "d 1 0\n", "1 2 0\n"
	checkProof(t, square, form+wrong+gone, 1, api.ErrProof)
	checkProof(t, square, wrong+form, 1, api.ErrStep)
	checkProof(t, square, gone+form, 1, api.ErrStep)
	for _, ahead := range []int{1, 2, 9, 10, 300} {
		lines := strings.Repeat(right, ahead)
		checkProof(t, square, lines, ahead, api.ErrOpen)
		checkProof(t, square, lines+form+wrong, ahead+1, api.ErrProof)
		checkProof(t, square, lines+wrong+form, ahead+1, api.ErrStep)
		checkProof(t, square, lines+gone+form, ahead+1, api.ErrStep)
		checkProof(t, square, lines+form+gone+"2 0\n0\n", ahead+1, api.ErrProof)
		checkProof(t, square, lines+"2 0\n0\n"+form, ahead+2, api.OK)
		checkProof(t, square, lines+"0", ahead+1, api.ErrProof)
	}
}

// A line whose clause could be no step is wrong in form, if it is that too.
func TestP4CheckFormAheadOfStep(t *testing.T) {
	for _, line := range []string{"0 \n", "d 1 0 \n", "-2 3 0\n", "d 3 0\n", "0", "d 1 0", "-1 0"} {
		checkProof(t, square, line, 1, api.ErrProof)
	}
}

// TestP4CheckShortProofs holds Check against the second checker at all short
// proofs that can be made of the bytes that matter.
func TestP4CheckShortProofs(t *testing.T) {
	inTime(t, func() {
		for _, text := range []string{"p cnf 1 2\n1 0 -1 0\n", square, "p cnf 12 0\n"} {
			eachText("012d- \n", 5, func(proof string) { checkSame(t, text, proof) })
		}
		eachText("0d1 \n", 7, func(proof string) { checkSame(t, "p cnf 1 1\n1 0\n", proof) })
	})
}

// TestP4CheckEditedProofs changes one place of right proofs in every way.
func TestP4CheckEditedProofs(t *testing.T) {
	inTime(t, func() {
		for _, proof := range []string{"2 0\n0\n", "1 -2 0\nd -2 1 0\n2 1 0\nd 2 1 0\n2 0\n0\n"} {
			for i := range len(proof) + 1 {
				eachEdit(proof[:i], proof[i:], func(edited string) { checkSame(t, square, edited) })
			}
		}
	})
}

func eachEdit(ahead, behind string, visit func(string)) {
	visit(ahead)
	visit(behind)
	for b := range 256 {
		put := string([]byte{byte(b)})
		visit(ahead + put + behind)
		if behind != "" {
			visit(ahead + put + behind[1:])
		}
	}
	if behind != "" {
		visit(ahead + behind[1:])
	}
}

// shortClauses is all clauses of at most so many literals.
func shortClauses(vars, most int) [][]int {
	all := [][]int{{}}
	for from := 0; most > 0; most-- {
		for end := len(all); from < end; from++ {
			for v := 1; v <= vars; v++ {
				all = append(all, append(slices.Clone(all[from]), v), append(slices.Clone(all[from]), -v))
			}
		}
	}
	return all
}

// TestP4CheckAllSmallProofs goes through all proofs of three lines of at most
// two literals each.
func TestP4CheckAllSmallProofs(t *testing.T) {
	var lines []string
	for _, clause := range shortClauses(2, 2) {
		lines = append(lines, lineOf(clause), "d "+lineOf(clause))
	}
	inTime(t, func() {
		for _, text := range []string{square, "p cnf 2 3\n1 2 0 -1 2 0 -2 0\n", "p cnf 2 2\n1 -2 0 1 -1 0\n", "p cnf 2 0\n"} {
			for _, a := range lines {
				for _, b := range lines {
					for _, c := range lines {
						checkSame(t, text, a+b+c)
					}
				}
			}
		}
	})
}

// drawing draws texts and proofs of so many variables, of which some are used.
type drawing struct {
	*rand.Rand
	vars  int
	names []int
}

func newDrawing(r *rand.Rand, vars, used int) drawing {
	d := drawing{r, vars, r.Perm(vars)[:used]}
	for i := range d.names {
		d.names[i]++
	}
	return d
}

// clause draws a clause of mostly two or three literals: now and then with one
// twice, or with one and its opposite, or with none.
func (d drawing) clause() []int {
	size := 1 + d.Intn(2) + d.Intn(2) + d.Intn(2)
	switch d.Intn(100) {
	case 0:
		size = 0
	case 1:
		size = 2 * len(d.names)
	}
	clause := make([]int, size)
	for i := range clause {
		clause[i] = d.names[d.Intn(len(d.names))] * (1 - 2*d.Intn(2))
	}
	return clause
}

// clauses draws the clauses of a text: if met is so, ones that can be met (by
// making every variable true), so that a proof may go on for long.
func (d drawing) clauses(met bool) [][]int {
	var list [][]int
	for range d.Intn(5 * len(d.names)) {
		clause := d.clause()
		if len(clause) == 0 || met && slices.Max(clause) < 0 {
			continue
		}
		list = append(list, clause)
	}
	return list
}

// line draws a line: a deletion is often one of what is there.
func (d drawing) line(there [][]int) string {
	kind := d.Intn(20)
	if kind == 0 {
		return "d " + lineOf(d.clause())
	}
	if kind > 6 || len(there) == 0 {
		return lineOf(d.clause())
	}
	clause := slices.Clone(there[d.Intn(len(there))])
	d.Shuffle(len(clause), func(i, k int) { clause[i], clause[k] = clause[k], clause[i] })
	return "d " + lineOf(append(clause, clause[:d.Intn(len(clause)+1)]...))
}

// TestP4CheckDrawnProofs makes proofs of many lines that are right, with one
// that is wrong at their end again and again.
func TestP4CheckDrawnProofs(t *testing.T) {
	inTime(t, func() {
		r := rand.New(rand.NewSource(4))
		for n := range 600 {
			vars := 1 + r.Intn(50)
			checkDrawn(t, newDrawing(r, vars, 1+r.Intn(min(vars, 8))), n%2 == 0, 200)
		}
		for range 4 {
			checkDrawn(t, newDrawing(r, 50, 10), true, 2500)
		}
	})
}

func checkDrawn(t *testing.T, d drawing, met bool, lines int) {
	t.Helper()
	clauses := d.clauses(met)
	text, proof := textOf(d.vars, clauses), ""
	c := &checker{vars: d.vars, there: clauses}
	for range lines {
		line := d.line(c.there)
		done := c.lines
		err := c.take(line)
		if err == api.OK && !c.ended {
			proof += line
			continue
		}
		if c.ended || d.Intn(4) == 0 {
			checkProof(t, text, proof+line, done+1, err)
		}
		if c.ended {
			return
		}
		c.lines = done
	}
	checkProof(t, text, proof, c.lines, api.ErrOpen)
}

// treeProof proves that clauses cannot be met by going through a tree of
// choices: each clause says that one branch is closed, and follows from those
// of the branches above it. With tidy, those are deleted again.
func treeProof(clauses [][]int, tidy bool) string {
	var proof strings.Builder
	var refute func(choices []int)
	refute = func(choices []int) {
		c := checker{there: clauses}
		if !c.conflicts(choices) {
			next := 1
			for slices.Contains(choices, next) || slices.Contains(choices, -next) {
				next++
			}
			yes, no := append(slices.Clone(choices), next), append(slices.Clone(choices), -next)
			refute(yes)
			refute(no)
			defer func() {
				if tidy && len(choices) > 0 {
					proof.WriteString("d " + lineOf(opposites(no)) + "d " + lineOf(opposites(yes)))
				}
			}()
		}
		proof.WriteString(lineOf(opposites(choices)))
	}
	refute(nil)
	return proof.String()
}

// pigeons is one more pigeon than there are holes.
func pigeons(holes int) (int, [][]int) {
	at := func(pigeon, hole int) int { return pigeon*holes + hole + 1 }
	var clauses [][]int
	for pigeon := range holes + 1 {
		var somewhere []int
		for hole := range holes {
			somewhere = append(somewhere, at(pigeon, hole))
			for other := range pigeon {
				clauses = append(clauses, []int{-at(pigeon, hole), -at(other, hole)})
			}
		}
		clauses = append(clauses, somewhere)
	}
	return (holes + 1) * holes, clauses
}

func TestP4CheckTreesOfChoices(t *testing.T) {
	inTime(t, func() {
		for holes := range 6 {
			vars, clauses := pigeons(holes)
			text := textOf(vars, clauses)
			for _, tidy := range []bool{false, true} {
				proof := treeProof(clauses, tidy)
				lines := strings.Count(proof, "\n")
				checkProof(t, text, proof, lines, api.OK)
				checkProof(t, text, strings.TrimSuffix(proof, "0\n"), lines-1, api.ErrOpen)
				if holes > 1 {
					checkProof(t, text, "0\n"+proof, 1, api.ErrStep)
				}
			}
		}
	})
}

// Without one of its lines, or with one that is cut short, a proof is held
// against the second checker.
func TestP4CheckTreesWithAFault(t *testing.T) {
	vars, clauses := pigeons(3)
	text := textOf(vars, clauses)
	lines := strings.SplitAfter(treeProof(clauses, true), "\n")
	inTime(t, func() {
		for i, line := range lines {
			ahead, behind := strings.Join(lines[:i], ""), strings.Join(lines[min(i+1, len(lines)):], "")
			checkSame(t, text, ahead+behind)
			_, short, _ := strings.Cut(line, " ")
			checkSame(t, text, ahead+short+behind)
		}
	})
}

// A proof may have any length, and so may a line.
func TestP4CheckLongProofs(t *testing.T) {
	inTime(t, func() {
		rounds := 200000
		checkProof(t, square, strings.Repeat("1 2 0\nd 2 1 0\n", rounds)+"2 0\n0\n", 2*rounds+2, api.OK)
		checkProof(t, square, strings.Repeat("1 2 0\n", rounds)+"d 1 2 0\n", rounds+1, api.ErrOpen)
		checkProof(t, square, strings.Repeat("1 2 0\n", rounds)+strings.Repeat("d 1 2 0\n", rounds+2), 2*rounds+2, api.ErrStep)
		wide := strings.Repeat("1 2 ", rounds)
		checkProof(t, square, wide+"0\n", 1, api.ErrOpen)
		checkProof(t, square, wide+"0\nd "+wide+"0\n2 0\n0\n", 4, api.OK)
		checkProof(t, square, wide, 1, api.ErrProof)
	})
}

// Many clauses are there and gone again, of all sizes up to 50 literals; what
// was there beside them, once or twice, is so still.
func TestP4CheckManyClauses(t *testing.T) {
	var added, deleted strings.Builder
	const many = 4000
	for n := range many {
		clause := []int{1}
		for v := 2; v <= 50; v++ {
			if n>>(v%12)&1 == 1 {
				clause = append(clause, v*(1-2*(v&1)))
			}
		}
		added.WriteString(lineOf(clause))
		slices.Reverse(clause)
		deleted.WriteString("d " + lineOf(clause))
	}
	inTime(t, func() {
		const text = "p cnf 50 4\n1 0 2 3 0 1 1 0 3 2 0\n"
		checkProof(t, text, added.String(), many, api.ErrOpen)
		proof := added.String() + deleted.String()
		checkProof(t, text, proof, 2*many, api.ErrOpen)
		checkProof(t, text, proof+"1 2 0\n-1 0\n", 2*many+2, api.ErrStep)
		checkProof(t, text, proof+"d 1 0\n0\n", 2*many+2, api.ErrStep)
		checkProof(t, text, proof+"d 1 0\nd 1 0\nd 1 0\n", 2*many+3, api.ErrStep)
		checkProof(t, text, proof+"d 2 3 0\nd 2 3 0\nd 2 3 0\n", 2*many+3, api.ErrStep)
		checkProof(t, text, proof+"d 1 0\nd 1 0\n-1 0\n-2 -3 0\n", 2*many+4, api.ErrOpen)
	})
}

// Clauses that come and go, so many that the store is made anew: it must not
// matter in which order Go reads a list and calls what makes it longer.
func TestP1CheckMakesItsStoreAnew(t *testing.T) {
	const text = "p cnf 50 1\n1 2 0\n"
	var added, deleted strings.Builder
	many := 0
	for i := 3; i <= 50; i++ {
		for k := i + 1; k <= 50 && many < 202; k++ {
			line := lineOf([]int{i, k})
			added.WriteString(line)
			deleted.WriteString("d " + line)
			many++
		}
	}
	proof := added.String() + deleted.String()
	checkProof(t, text, proof, 404, api.ErrOpen)
	checkProof(t, text, proof+proof, 808, api.ErrOpen)
	checkProof(t, text, proof+"d 2 1 0\n", 405, api.ErrOpen)
	checkProof(t, text, proof+"d 3 4 0\n", 405, api.ErrStep)
	checkProof(t, text, proof+"-1 0\n", 405, api.ErrStep)
	checkProof(t, text, proof+"d 2 1 0\n-1 0\n", 406, api.ErrOpen)
}

// P1: long proofs of every byte, alone and behind what a line begins with.
func TestP1CheckEndsAtAllProofs(t *testing.T) {
	inTime(t, func() {
		for b := range 256 {
			long := strings.Repeat(string([]byte{byte(b)}), 20000)
			for _, ahead := range []string{"", "d", "d ", "1", "-", "1 ", "1 2 0\n", "d 1 2 0\n", "2 0\n0"} {
				checkSame(t, square, ahead+long)
				checkSame(t, square, ahead+long+"\n")
			}
			checkSame(t, long, long)
		}
	})
}

func FuzzP4Check(f *testing.F) {
	f.Add(square, "2 0\n0\n")
	f.Add("p cnf 3 2\n1 2 0 3 -3 1 0\n", "3 1 0\nd 1 3 -3 0\n-3 2 0\nd 2 1 0\n")
	f.Fuzz(func(t *testing.T, text, proof string) { checkSame(t, text, proof) })
}

func TestP2CheckAnswersTheSameAgain(t *testing.T) {
	texts := []string{square, "", "p cnf 51 0\n", "p cnf 3 1\n1 2 0\n", "p cnf 2 1\n0\n"}
	proofs := []string{"2 0\n0\n", "", "x", "d 1 2 0\n", "0\n", "2 0\n", "1 3 0\n"}
	var first []checking
	for _, text := range texts {
		for _, proof := range proofs {
			first = append(first, check(text, proof))
		}
	}
	for i := range first {
		// From the last to the first, and copies at another place.
		i = len(first) - 1 - i
		text, proof := strings.Clone(texts[i/len(proofs)]), strings.Clone(proofs[i%len(proofs)])
		checkProof(t, text, proof, first[i].line, first[i].err)
	}
}

func TestP2CheckAtTheSameTime(t *testing.T) {
	answers := make(chan checking)
	proofs := 8
	for n := range proofs {
		go func() { answers <- check(square, strings.Repeat("1 2 0\nd 1 2 0\n", 100*n)+"2 0\n0\n") }()
	}
	seen := make([]int, proofs)
	for range proofs {
		got := <-answers
		if got.err != api.OK || got.line%200 != 2 || got.line/200 >= proofs {
			t.Fatalf("an answer is %v", got)
		}
		seen[got.line/200]++
	}
	if !slices.Equal(seen, slices.Repeat([]int{1}, proofs)) {
		t.Errorf("proofs were told so often: %v", seen)
	}
}
