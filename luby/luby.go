// Package luby: Luby's sequence.
package luby

import "math/bits"

// Number is number i of Luby's sequence, for an i of at least 1.
func Number(i int) int {
	for {
		half := 1 << (bits.Len(uint(i)) - 1)
		if i == 2*half-1 {
			return half
		}
		// From half up to 2*half-2 the first half-1 numbers stand once more.
		i -= half - 1
	}
}
