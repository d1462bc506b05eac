package sink_test

import (
	"math"
	"strings"
	"testing"

	"assay/sink"
)

// checkWrite writes a piece, and says how many bytes of it are to be taken.
func checkWrite(t *testing.T, s sink.Sink, piece string, want int) {
	t.Helper()
	n, err := s.Write([]byte(piece))
	if n != want || (err == nil) != (want == len(piece)) {
		t.Errorf("Write(%q) = %d, %v, want %d", piece, n, err, want)
	}
}

func checkTaken(t *testing.T, s sink.Sink, want string) {
	t.Helper()
	if got := sink.Taken(s); got != want {
		t.Errorf("Taken is %q, want %q", got, want)
	}
}

func TestTakesAllBelowNought(t *testing.T) {
	for _, room := range []int{-1, -2, math.MinInt} {
		s := sink.New(room)
		checkTaken(t, s, "")
		checkWrite(t, s, "one", 3)
		checkWrite(t, s, "", 0)
		checkTaken(t, s, "one")
		checkWrite(t, s, strings.Repeat("x", 100000), 100000)
		checkTaken(t, s, "one"+strings.Repeat("x", 100000))
	}
}

func TestTakesTheFirstBytes(t *testing.T) {
	pieces := []string{"abc", "", "d", "efgh", "", "ij"}
	all := strings.Join(pieces, "")
	for room := range len(all) + 3 {
		s := sink.New(room)
		left := room
		for _, piece := range pieces {
			n := min(left, len(piece))
			checkWrite(t, s, piece, n)
			left -= n
		}
		checkTaken(t, s, all[:min(room, len(all))])
	}
}

func TestGreatestRoom(t *testing.T) {
	s := sink.New(math.MaxInt)
	checkWrite(t, s, "abc", 3)
	checkWrite(t, s, "d", 1)
	checkTaken(t, s, "abcd")
}

// What is full stays full, and takes no more, however little.
func TestFullStaysFull(t *testing.T) {
	s := sink.New(2)
	checkWrite(t, s, "abc", 2)
	checkWrite(t, s, "d", 0)
	checkWrite(t, s, "", 0)
	checkWrite(t, s, "e", 0)
	checkTaken(t, s, "ab")
}

// The writer goes on to use its bytes, and they are as they were.
func TestKeepsNoPiece(t *testing.T) {
	for _, room := range []int{-1, 2, 3, 100} {
		s := sink.New(room)
		piece := []byte("abc")
		s.Write(piece)
		if string(piece) != "abc" {
			t.Errorf("room %d: the piece is now %q", room, piece)
		}
		first := sink.Taken(s)
		copy(piece, "xyz")
		s.Write(piece)
		if want := "abc"[:len(first)]; first != want || !strings.HasPrefix(sink.Taken(s), want) {
			t.Errorf("room %d: Taken was %q and is %q", room, first, sink.Taken(s))
		}
	}
}

// other is a sink of neither kind: nobody knows what it took.
type other struct{}

func (other) Write(p []byte) (int, error) { return len(p), nil }

func TestTakenOfAnotherKind(t *testing.T) {
	checkTaken(t, other{}, "")
	checkTaken(t, nil, "")
}
