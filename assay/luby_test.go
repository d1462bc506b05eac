package assay_test

import (
	"math"
	"testing"

	"assay/api"
	"assay/assay"
)

func checkLuby(t *testing.T, i, want int, wantErr api.Errno) {
	t.Helper()
	if n, e := assay.Luby(i); n != want || e != wantErr {
		t.Errorf("Luby(%d) = %d, %d, want %d, %d", i, n, e, want, wantErr)
	}
}

// sequence writes Luby's sequence out as P5 words it: what is there, twice,
// and then the next power of 2.
func sequence(length int) []int {
	var numbers []int
	for power := 1; len(numbers) < length; power *= 2 {
		numbers = append(numbers, numbers...)
		numbers = append(numbers, power)
	}
	return numbers[:length]
}

func TestP5LubyOfTheDocument(t *testing.T) {
	for i, want := range []int{1, 1, 2, 1, 1, 2, 4, 1, 1, 2, 1, 1, 2, 4, 8} {
		checkLuby(t, i+1, want, api.OK)
	}
}

func TestP5LubyAtEveryNumber(t *testing.T) {
	for i, want := range sequence(api.MaxLuby) {
		if n, e := assay.Luby(i + 1); n != want || e != api.OK {
			t.Fatalf("Luby(%d) = %d, %d, want %d, OK", i+1, n, e, want)
		}
	}
}

func TestP5LubyAtPowersOfTwo(t *testing.T) {
	for k := 1; 1<<k <= api.MaxLuby; k++ {
		checkLuby(t, 1<<k-1, 1<<(k-1), api.OK)
		checkLuby(t, 1<<k, 1, api.OK)
	}
}

func TestP5LubyAtTheEnds(t *testing.T) {
	checkLuby(t, 1, 1, api.OK)
	checkLuby(t, api.MaxLuby-1, 2, api.OK)
	checkLuby(t, api.MaxLuby, 4, api.OK)
}

// P1 too: with an error the number is 0, and no number makes Luby panic or
// go on without an end.
func TestP5LubyRefusesWhatLiesOutside(t *testing.T) {
	outside := []int{
		0, -1, -2, -api.MaxLuby, api.MaxLuby + 1, api.MaxLuby + 2, 1<<20 - 1,
		math.MaxInt32, math.MinInt32, math.MaxUint32, 1<<32 + 1, -1<<32 + 1,
		1 << 62, 1<<62 - 1, math.MaxInt - 1, math.MaxInt, math.MinInt + 1, math.MinInt,
	}
	for _, i := range outside {
		checkLuby(t, i, 0, api.ErrArg)
	}
}

func TestP2LubyAnswersTheSameAgain(t *testing.T) {
	numbers := []int{1, 7, 0, api.MaxLuby, math.MaxInt, 7, math.MinInt, 524287}
	for _, i := range numbers {
		n, e := assay.Luby(i)
		for _, between := range numbers {
			assay.Luby(between)
		}
		checkLuby(t, i, n, e)
	}
}
