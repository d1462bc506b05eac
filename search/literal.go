package search

// In here a literal is a number from 0 on, so that lists can be asked by it:
// 2v says that variable v (from 0 on) is true, 2v+1 that it is false.

// literalOf is the literal that is written as such a number.
func literalOf(written int) int {
	if written < 0 {
		return 2*(-written-1) + 1
	}
	return 2 * (written - 1)
}

// writtenOf is the number as which a literal is written.
func writtenOf(literal int) int {
	number := variableOf(literal) + 1
	if saysTrue(literal) {
		return number
	}
	return -number
}

func variableOf(literal int) int {
	return literal / 2
}

func saysTrue(literal int) bool {
	return literal%2 == 0
}

func opposite(literal int) int {
	return literal ^ 1
}
