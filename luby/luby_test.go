package luby_test

import (
	"math"
	"testing"

	"assay/luby"
)

// A search may ask for numbers beyond those that the call Luby answers.
func TestNumbersOfAnySize(t *testing.T) {
	for k := 1; k < 63; k++ {
		last := 1<<k - 1
		if got := luby.Number(last); got != 1<<(k-1) {
			t.Errorf("number %d is %d, want %d", last, got, 1<<(k-1))
		}
		if got := luby.Number(last + 1); got != 1 {
			t.Errorf("number %d is %d, want 1", last+1, got)
		}
	}
	if got := luby.Number(math.MaxInt); got != 1<<62 {
		t.Errorf("the last number is %d, want %d", got, 1<<62)
	}
}
