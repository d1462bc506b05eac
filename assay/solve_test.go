package assay_test

import (
	"math"
	"math/rand"
	"reflect"
	"slices"
	"strconv"
	"strings"
	"testing"
	"time"

	"assay/api"
	"assay/assay"
	"assay/drat"
)

// square is the four clauses of the document's example 4.
const square = "p cnf 2 4\n1 2 0 -1 2 0\n1 -2 0 -1 -2 0\n"

// inTime fails if work does not end: a search that goes in circles would run
// on until the test binary is killed, and would not say where.
func inTime(t *testing.T, work func()) {
	t.Helper()
	done := make(chan bool)
	go func() {
		defer close(done)
		work()
	}()
	select {
	case <-done:
	case <-time.After(5 * time.Minute):
		t.Fatal("the calls do not end")
	}
}

func textOf(vars int, clauses [][]int) string {
	var text strings.Builder
	text.WriteString("p cnf " + strconv.Itoa(vars) + " " + strconv.Itoa(len(clauses)) + "\n")
	for _, clause := range clauses {
		for _, literal := range clause {
			text.WriteString(strconv.Itoa(literal) + " ")
		}
		text.WriteString("0\n")
	}
	return text.String()
}

func solve(t *testing.T, text string, room int) api.Answer {
	t.Helper()
	answer, err := assay.Solve(text, room)
	if err != api.OK {
		t.Fatalf("Solve(%.80q, %d): the error %d", text, room, err)
	}
	return answer
}

func isMetBy(clauses [][]int, values []bool) bool {
	for _, clause := range clauses {
		if !slices.ContainsFunc(clause, func(x int) bool { return values[max(x, -x)-1] == (x > 0) }) {
			return false
		}
	}
	return true
}

// checkWhole solves a text with all room, and looks whether the answer is what
// it says of itself (P6).
func checkWhole(t *testing.T, text string) api.Answer {
	t.Helper()
	vars, clauses, err := drat.Read(text)
	if err != api.OK {
		t.Fatalf("Read(%.80q): the error %d", text, err)
	}
	answer := solve(t, text, -1)
	lines := strings.Count(answer.Proof, "\n")
	switch answer.Verdict {
	case api.Met:
		if len(answer.Values) != vars || !isMetBy(clauses, answer.Values) {
			t.Fatalf("Solve(%.80q): the values %v", text, answer.Values)
		}
		checkLines(t, text, answer.Proof, lines, api.ErrOpen)
	case api.Never:
		if len(answer.Values) != 0 || !strings.HasSuffix("\n"+answer.Proof, "\n0\n") {
			t.Fatalf("Solve(%.80q): the values %v, the proof %.80q", text, answer.Values, answer.Proof)
		}
		checkLines(t, text, answer.Proof, lines, api.OK)
	default:
		t.Fatalf("Solve(%.80q): the verdict %d", text, answer.Verdict)
	}
	return answer
}

func checkLines(t *testing.T, text, proof string, line int, err api.Errno) {
	t.Helper()
	if got, gotErr := drat.Check(text, proof); got != line || gotErr != err {
		t.Fatalf("Check of Solve(%.80q), %.80q: %d, %d, want %d, %d", text, proof, got, gotErr, line, err)
	}
}

func checkVerdict(t *testing.T, text string, want int) {
	t.Helper()
	if answer := checkWhole(t, text); answer.Verdict != want {
		t.Errorf("Solve(%.80q): the verdict %d, want %d", text, answer.Verdict, want)
	}
}

// canBeMet tries all assignments.
func canBeMet(vars int, clauses [][]int) bool {
	values := make([]bool, vars)
	for bits := range 1 << vars {
		for v := range values {
			values[v] = bits>>v&1 == 1
		}
		if isMetBy(clauses, values) {
			return true
		}
	}
	return false
}

func checkByTrying(t *testing.T, vars int, clauses [][]int) {
	t.Helper()
	want := api.Never
	if canBeMet(vars, clauses) {
		want = api.Met
	}
	checkVerdict(t, textOf(vars, clauses), want)
}

func TestP6SolveOfTheDocument(t *testing.T) {
	const more = "p cnf 2 5\n1 2 0\n-1 2 0\n1 -2 0\n-1 -2 0\n-1 0\n"
	checkVerdict(t, more, api.Never)
	if got := solve(t, more, 0); !reflect.DeepEqual(got, api.Answer{Verdict: api.Sunk}) {
		t.Errorf("with the room 0: %+v", got)
	}
	checkVerdict(t, "p cnf 3 1\n1 -1 0\n", api.Met)
	checkVerdict(t, "p cnf 1 1\n0", api.Never)
	checkVerdict(t, "c hello\nc\np cnf 0 0\n", api.Met)
	checkVerdict(t, square, api.Never)
}

// rooms are all kinds of room.
var rooms = []int{math.MinInt, -2, -1, 0, 1, 2, 100, math.MaxInt}

// checkRefused: Read's error, and nothing else, whatever the room is.
func checkRefused(t *testing.T, want api.Errno, texts ...string) {
	t.Helper()
	for _, text := range texts {
		for _, room := range rooms {
			answer, err := assay.Solve(text, room)
			if err != want || !reflect.DeepEqual(answer, api.Answer{}) {
				t.Errorf("Solve(%.80q, %d) = %+v, %d, want the error %d", text, room, answer, err, want)
			}
		}
	}
}

func TestP6SolveReadsFirst(t *testing.T) {
	checkRefused(t, api.ErrForm,
		"", "p cnf 1 1\n2 0\n", "p cnf 1 1\n1\n", "p cnf 1 2\n1 0\n", "p cnf 1 0\n1 0\n", "p cnf 1 1\n01 0\n", "p cnf 1 1\n+1 0\n", "p cnf 1 1\n-0\n",
		"p  cnf 1 0\n", "p cnf 1 0", "cx\np cnf 1 0\n", "p cnf 1 1\nc\n1 0\n", "p cnf 51 1\n", "p cnf 0 1\n", "p cnf 0 1\n1 0\n", "x", "\x00", "\xff\n", "0\n", "p cnf -1 0\n",
	)
	over := "p cnf 1 1\n" + strings.Repeat("1 ", api.MaxLiterals+1) + "0\n"
	halves := "p cnf 2 2\n" + strings.Repeat("1 ", 350) + "0\n" + strings.Repeat("-2 ", 351) + "0\n"
	checkRefused(t, api.ErrLimit,
		"p cnf 51 0\n", "p cnf 51 1\n0\n", "p cnf 999999999999999999999999 0\n", over, halves,
		strings.Repeat("x", api.MaxText+1), square+strings.Repeat(" ", api.MaxText+1-len(square)), strings.Repeat("\n", 1000000),
	)
}

func TestP6SolveAtTheLimits(t *testing.T) {
	checkVerdict(t, square+strings.Repeat(" ", api.MaxText-len(square)), api.Never)
	checkVerdict(t, strings.Repeat("c\n", 9000)+square, api.Never)
	checkVerdict(t, "p cnf 50 0\n", api.Met)
	checkVerdict(t, "p cnf 50 2\n50 0 -50 0\n", api.Never)
	checkVerdict(t, "p cnf 50 2\n50 49 0 -50 -49 0\n", api.Met)
	checkVerdict(t, "p cnf 1 1\n"+strings.Repeat("1 ", api.MaxLiterals)+"0\n", api.Met)
	checkVerdict(t, "p cnf 1 2\n"+strings.Repeat("1 ", api.MaxLiterals-1)+"0 -1 0\n", api.Never)
	checkVerdict(t, "p cnf 1 700\n"+strings.Repeat("1 0 ", 699)+"-1 0\n", api.Never)
	checkVerdict(t, "p cnf 1 700\n"+strings.Repeat("-1 0 ", 700), api.Met)
	checkVerdict(t, "p cnf 50 5000\n"+strings.Repeat("0\n", 5000), api.Never)
	wide := make([]int, 0, api.MaxLiterals)
	for i := range api.MaxLiterals {
		wide = append(wide, i%50+1)
	}
	checkVerdict(t, textOf(50, [][]int{wide}), api.Met)
}

func TestP6SolveWithoutVariablesOrClauses(t *testing.T) {
	for vars := range api.MaxVars + 1 {
		answer := checkWhole(t, textOf(vars, nil))
		if answer.Verdict != api.Met || len(answer.Values) != vars {
			t.Errorf("%d variables, no clauses: %+v", vars, answer)
		}
		if vars > 0 {
			checkVerdict(t, textOf(vars, [][]int{{vars, -vars}}), api.Met)
		}
	}
	checkVerdict(t, "p cnf 0 1\n0\n", api.Never)
	checkVerdict(t, "p cnf 0 3\n0 0 0", api.Never)
}

// The empty clause, wherever it stands, ends the search: with a proof of one
// line, if nothing has been written ahead of it.
func TestP6SolveWithTheEmptyClause(t *testing.T) {
	clauses := [][]int{{1, 2}, {-1}, {3, -3}, {2, 2, -4}}
	for i := range len(clauses) + 1 {
		text := textOf(4, slices.Insert(slices.Clone(clauses), i, []int{}))
		checkVerdict(t, text, api.Never)
		checkRooms(t, text)
		checkVerdict(t, textOf(4, slices.Insert(slices.Clone(clauses), i, []int{}, []int{}, []int{1})), api.Never)
	}
}

func TestP6SolveOddClauses(t *testing.T) {
	for _, text := range []string{
		"p cnf 1 1\n1 1 1 0", "p cnf 1 1\n-1 -1 0", "p cnf 2 2\n1 1 2 0 -1 -1 0", "p cnf 2 3\n1 -1 0 2 -2 0 -2 2 1 0", "p cnf 2 2\n1 1 -1 -1 0 -2 0", "p cnf 2 3\n1 2 0 1 2 0 2 1 0",
		"p cnf 2 4\n1 -1 0 -1 1 2 0 1 1 0 2 2 0", "p cnf 3 3\n1 0 -1 2 0 -2 3 0", "p cnf 2 3\n1 2 0 -1 2 0 1 -2 0", "p cnf 1 2\n1 0 1 0", "p cnf 1 2\n1 0 1 -1 0", "p cnf 1 2\n1 -1 0 -1 0",
	} {
		checkVerdict(t, text, api.Met)
	}
	for _, text := range []string{
		"p cnf 1 2\n1 1 0 -1 -1 0", "p cnf 1 3\n1 -1 0 1 0 -1 0", "p cnf 1 4\n1 0 1 0 -1 0 -1 0", "p cnf 2 5\n1 1 2 0 2 -1 2 0 1 -2 1 0 -1 -2 -2 0 1 2 -1 0",
		"p cnf 2 8\n1 2 0 1 2 0 -1 2 0 -1 2 0 1 -2 0 1 -2 0 -1 -2 0 -2 -1 0", "p cnf 3 4\n-3 0 1 0 -1 2 0 -2 3 0", "p cnf 2 3\n1 2 2 0 -1 -1 0 -2 -2 0", "p cnf 2 4\n2 0 1 -2 0 -1 -2 0 2 -2 0",
	} {
		checkVerdict(t, text, api.Never)
	}
}

// shortClauses is all clauses of at most so many literals, also such as have
// one twice or with its opposite.
func shortClauses(vars, most int) [][]int {
	all := [][]int{{}}
	for from := 0; most > 0; most-- {
		for end := len(all); from < end; from++ {
			for v := 1; v <= vars; v++ {
				all = append(all, append(slices.Clone(all[from]), v), append(slices.Clone(all[from]), -v))
			}
		}
	}
	return all
}

func TestP6SolveAllSmallTexts(t *testing.T) {
	some := shortClauses(2, 2)
	inTime(t, func() {
		checkByTrying(t, 2, nil)
		for _, a := range some {
			checkByTrying(t, 2, [][]int{a})
			for _, b := range some {
				checkByTrying(t, 2, [][]int{a, b})
				for _, c := range some {
					checkByTrying(t, 2, [][]int{a, b, c})
				}
			}
		}
	})
}

// All choices of clauses that name each of three variables, and all choices
// of clauses that name two of them.
func TestP6SolveAllChoicesOfClauses(t *testing.T) {
	var two, three [][]int
	for bits := range 8 {
		sign := func(v int) int { return v * (1 - 2*(bits>>(v-1)&1)) }
		three = append(three, []int{sign(1), sign(2), sign(3)})
		if bits < 4 {
			two = append(two, []int{sign(1), sign(2)}, []int{sign(2), 3}, []int{sign(1), -3})
		}
	}
	inTime(t, func() {
		for _, all := range [][][]int{two, three} {
			for chosen := range 1 << len(all) {
				var clauses [][]int
				for i, clause := range all {
					if chosen>>i&1 == 1 {
						clauses = append(clauses, clause)
					}
				}
				checkByTrying(t, 3, clauses)
			}
		}
	})
}

// drawn draws clauses of up to so many literals.
func drawn(r *rand.Rand, vars, many, most int) [][]int {
	clauses := make([][]int, many)
	for i := range clauses {
		clauses[i] = make([]int, 1+r.Intn(most))
		for k := range clauses[i] {
			clauses[i][k] = (1 + r.Intn(vars)) * (1 - 2*r.Intn(2))
		}
		if r.Intn(200) == 0 {
			clauses[i] = nil
		}
		if i > 0 && r.Intn(20) == 0 {
			clauses[i] = slices.Clone(clauses[r.Intn(i)])
			slices.Reverse(clauses[i])
		}
	}
	return clauses
}

func TestP6SolveDrawnTexts(t *testing.T) {
	r := rand.New(rand.NewSource(6))
	inTime(t, func() {
		for range 6000 {
			vars := 1 + r.Intn(9)
			most := 1 + r.Intn(4)
			checkByTrying(t, vars, drawn(r, vars, r.Intn(5*vars*most), most))
		}
		for range 60 {
			checkByTrying(t, 13, drawn(r, 13, 30+r.Intn(100), 4))
		}
	})
}

// threes draws clauses of three literals each, of three variables.
func threes(r *rand.Rand, vars, many int) [][]int {
	clauses := make([][]int, many)
	for i := range clauses {
		for _, v := range r.Perm(vars)[:3] {
			clauses[i] = append(clauses[i], (v+1)*(1-2*r.Intn(2)))
		}
	}
	return clauses
}

// Great texts, up to the limits: what can be met and what cannot is drawn
// about as often. The answers are held against themselves: values that meet
// all clauses, or a proof that Check takes, leave nothing open.
func TestP6SolveGreatTexts(t *testing.T) {
	r := rand.New(rand.NewSource(7))
	inTime(t, func() {
		verdicts := make([]int, 4)
		for range 200 {
			vars := 30 + r.Intn(21)
			verdicts[checkWhole(t, textOf(vars, threes(r, vars, vars*43/10))).Verdict]++
		}
		for range 50 {
			checkVerdict(t, textOf(50, threes(r, 50, 100)), api.Met)
			checkVerdict(t, textOf(20, threes(r, 20, 233)), api.Never)
		}
		if verdicts[api.Met] < 30 || verdicts[api.Never] < 30 {
			t.Errorf("%d can be met, %d cannot", verdicts[api.Met], verdicts[api.Never])
		}
	})
}

// Clauses that are drawn so that some values meet them.
func TestP6SolveWhatCanBeMet(t *testing.T) {
	r := rand.New(rand.NewSource(8))
	inTime(t, func() {
		for range 200 {
			values := make([]bool, 50)
			for v := range values {
				values[v] = r.Intn(2) == 0
			}
			var clauses [][]int
			for len(clauses) < 233 {
				if next := threes(r, 50, 1); isMetBy(next, values) {
					clauses = append(clauses, next...)
				}
			}
			checkVerdict(t, textOf(50, clauses), api.Met)
		}
	})
}

// pigeons is so many pigeons in so many holes, one in each at most.
func pigeons(many, holes int) string {
	at := func(pigeon, hole int) int { return pigeon*holes + hole + 1 }
	var clauses [][]int
	for pigeon := range many {
		var somewhere []int
		for hole := range holes {
			somewhere = append(somewhere, at(pigeon, hole))
			for other := range pigeon {
				clauses = append(clauses, []int{-at(pigeon, hole), -at(other, hole)})
			}
		}
		clauses = append(clauses, somewhere)
	}
	return textOf(many*holes, clauses)
}

func TestP6SolvePigeons(t *testing.T) {
	inTime(t, func() {
		for holes := range 7 {
			checkVerdict(t, pigeons(holes, holes), api.Met)
			checkVerdict(t, pigeons(holes+1, holes), api.Never)
		}
		checkVerdict(t, pigeons(7, 7), api.Met)
		checkVerdict(t, pigeons(8, 6), api.Never)
		checkVerdict(t, pigeons(10, 5), api.Never)
	})
}

// knots is a sum for each of some knots: whether the number of threads at it
// that are true is odd. Each thread, which is a variable, ends at two knots:
// it can be met if, and only if, an even number of knots is to be odd.
func knots(r *rand.Rand, many, threads int, odd []bool) string {
	at := make([][]int, many)
	ends := r.Perm(many * threads)
	for i, end := range ends {
		at[end%many] = append(at[end%many], i/2+1)
	}
	var clauses [][]int
	for knot, variables := range at {
		for bits := range 1 << threads {
			clause := make([]int, threads)
			isOdd := false
			for i, v := range variables {
				clause[i] = v
				if bits>>i&1 == 1 {
					clause[i] = -v
					isOdd = !isOdd
				}
			}
			if isOdd != odd[knot] {
				clauses = append(clauses, clause)
			}
		}
	}
	return textOf(many*threads/2, clauses)
}

// What is hard to refute: long proofs, with many deletions.
func TestP6SolveKnots(t *testing.T) {
	r := rand.New(rand.NewSource(9))
	odd := make([]bool, 32)
	odd[3] = true
	even := slices.Clone(odd)
	even[4] = true
	inTime(t, func() {
		for range 4 {
			checkVerdict(t, knots(r, 32, 3, odd), api.Never)
			checkVerdict(t, knots(r, 32, 3, even), api.Met)
			checkVerdict(t, knots(r, 21, 4, odd), api.Never)
			checkVerdict(t, knots(r, 21, 4, even), api.Met)
		}
	})
}

// Learnt clauses are deleted again: fewer are there at a time than are learnt.
func TestP6SolveDeletesWhatItLearnt(t *testing.T) {
	answer := checkWhole(t, pigeons(7, 6))
	there, most, additions := 0, 0, 0
	for line := range strings.Lines(answer.Proof) {
		if strings.HasPrefix(line, "d ") {
			there--
			continue
		}
		there++
		additions++
		most = max(most, there)
	}
	if most >= additions/2 {
		t.Errorf("of %d learnt clauses %d are there at a time", additions, most)
	}
}

// checkRoom looks whether an answer is what P6 and P7 say, by the answer that
// the same text has with all room.
func checkRoom(t *testing.T, text string, room int, whole api.Answer) {
	t.Helper()
	got := solve(t, text, room)
	enough := room < 0 || room >= len(whole.Proof)
	switch {
	case got.Verdict == api.Sunk:
		if enough || got.Proof != whole.Proof[:room] || len(got.Values) != 0 {
			t.Fatalf("Solve(%.80q, %d) = %+v, the whole proof has %d bytes", text, room, got, len(whole.Proof))
		}
	case enough:
		if !reflect.DeepEqual(got, whole) {
			t.Fatalf("Solve(%.80q, %d) = %+v, want %+v", text, room, got, whole)
		}
	case got.Verdict != api.Met || whole.Verdict != api.Met || got.Proof != whole.Proof[:room] || !slices.Equal(got.Values, whole.Values):
		t.Fatalf("Solve(%.80q, %d) = %+v, the whole answer is %+v", text, room, got, whole)
	}
}

// checkRooms tries rooms below 0 and, unless the proof is long, all rooms up
// to some that are more than enough.
func checkRooms(t *testing.T, text string) api.Answer {
	t.Helper()
	whole := checkWhole(t, text)
	size := len(whole.Proof)
	for _, room := range []int{math.MinInt, -size - 1, -size, -2, -1, size, size + 1, size + 2, 2*size + 1, math.MaxInt} {
		checkRoom(t, text, room, whole)
	}
	step := 1 + size/300
	for room := 0; room < size; room += step {
		checkRoom(t, text, room, whole)
	}
	for room := max(0, size-5); room < size; room++ {
		checkRoom(t, text, room, whole)
	}
	return whole
}

func TestP7SolveRooms(t *testing.T) {
	inTime(t, func() {
		for _, text := range []string{square, "p cnf 1 1\n1 0\n", "p cnf 0 1\n0\n", "p cnf 0 0\n", "p cnf 1 2\n1 0 -1 0", pigeons(2, 1), pigeons(4, 3), pigeons(5, 4), pigeons(5, 5), pigeons(6, 5), pigeons(7, 6)} {
			checkRooms(t, text)
		}
	})
}

func TestP7SolveRoomsOfDrawnTexts(t *testing.T) {
	r := rand.New(rand.NewSource(10))
	inTime(t, func() {
		written := make([]int, 4)
		for n := range 300 {
			vars := 3 + r.Intn(10)
			clauses := drawn(r, vars, 4*vars, 4)
			if n%2 == 0 {
				clauses = threes(r, vars, 4*vars)
			}
			whole := checkRooms(t, textOf(vars, clauses))
			if whole.Proof != "" {
				written[whole.Verdict]++
			}
		}
		for range 10 {
			whole := checkRooms(t, textOf(50, threes(r, 50, 215)))
			written[whole.Verdict]++
		}
		if written[api.Met] < 20 || written[api.Never] < 20 {
			t.Errorf("%d texts that can be met had a proof written, %d that cannot", written[api.Met], written[api.Never])
		}
	})
}

// Room for nothing, for all but a byte, and for all.
func TestP7SolveEdges(t *testing.T) {
	for _, text := range []string{square, "p cnf 0 1\n0\n", pigeons(7, 6)} {
		whole := checkWhole(t, text)
		size := len(whole.Proof)
		for _, room := range []int{0, 1, size - 1} {
			want := api.Answer{Verdict: api.Sunk, Proof: whole.Proof[:room]}
			if got := solve(t, text, room); !reflect.DeepEqual(got, want) {
				t.Errorf("Solve(%.80q, %d) = %+v, want %+v", text, room, got, want)
			}
		}
		for _, room := range []int{size, size + 1, math.MaxInt} {
			if got := solve(t, text, room); !reflect.DeepEqual(got, whole) {
				t.Errorf("Solve(%.80q, %d) = %+v, want %+v", text, room, got, whole)
			}
		}
	}
	// What comes to no conflict writes nothing, and so it cannot fail.
	for _, text := range []string{"p cnf 0 0\n", "p cnf 3 1\n1 -1 0\n", "p cnf 2 2\n1 0 -1 2 0\n"} {
		if got := solve(t, text, 0); got.Verdict != api.Met {
			t.Errorf("Solve(%q, 0) = %+v", text, got)
		}
	}
}

// P1: all texts of a few bytes, and long ones of each byte, at all rooms.
func TestP1SolveEndsAtAllTexts(t *testing.T) {
	inTime(t, func() {
		for b := range 256 {
			for _, size := range []int{1, 2, api.MaxText, api.MaxText + 1} {
				long := strings.Repeat(string([]byte{byte(b)}), size)
				for _, text := range []string{long, "p cnf 2 " + long, "p cnf 1 1\n" + long, "p cnf 1 1\n1 0" + long, square + long} {
					checkLikeRead(t, text)
				}
			}
		}
	})
}

// checkLikeRead looks whether Solve takes what Read takes.
func checkLikeRead(t *testing.T, text string) {
	t.Helper()
	_, _, want := drat.Read(text)
	if want != api.OK {
		checkRefused(t, want, text)
		return
	}
	for _, room := range rooms {
		solve(t, text, room)
	}
}

func FuzzP6Solve(f *testing.F) {
	f.Add(square, 3)
	f.Add("p cnf 3 4\n1 2 0 3 -3 1 0 -1 0 -2 -2 3 0\n", 0)
	f.Fuzz(func(t *testing.T, text string, room int) {
		checkLikeRead(t, text)
		if _, _, err := drat.Read(text); err == api.OK {
			checkRoom(t, text, room, checkWhole(t, text))
		}
	})
}

// asked is calls of all kinds.
func asked() []api.Answer {
	r := rand.New(rand.NewSource(11))
	var answers []api.Answer
	for _, text := range []string{square, "", "p cnf 51 0\n", pigeons(7, 6), pigeons(5, 5), textOf(50, threes(r, 50, 215)), textOf(40, threes(r, 40, 160)), "p cnf 4 0\n", "p cnf 0 1\n0\n"} {
		for _, room := range []int{-1, 0, 5, 700, 100000} {
			answer, _ := assay.Solve(strings.Clone(text), room)
			answers = append(answers, answer)
		}
	}
	return answers
}

func TestP2SolveAnswersTheSameAgain(t *testing.T) {
	inTime(t, func() {
		first := asked()
		for range 20 {
			if again := asked(); !reflect.DeepEqual(again, first) {
				t.Fatal("the same calls answer something else")
			}
		}
		text := pigeons(6, 5)
		alone := solve(t, text, -1)
		for _, between := range []string{square, "", pigeons(7, 6), text} {
			for _, room := range rooms {
				assay.Solve(between, room)
			}
			if again := solve(t, text, -1); !reflect.DeepEqual(again, alone) {
				t.Fatalf("after Solve(%.80q) another answer comes", between)
			}
		}
	})
}

func TestP2SolveAtTheSameTime(t *testing.T) {
	want := asked()
	answers := make(chan []api.Answer)
	for range 8 {
		go func() { answers <- asked() }()
	}
	for range 8 {
		if got := <-answers; !reflect.DeepEqual(got, want) {
			t.Error("calls at the same time answer something else")
		}
	}
}

// An owner may write into the values, and behind them too: no other answer
// changes.
func TestP2SolveIsNewMemory(t *testing.T) {
	r := rand.New(rand.NewSource(12))
	for _, text := range []string{"p cnf 50 0\n", "p cnf 3 1\n1 -1 0\n", pigeons(5, 5), textOf(50, threes(r, 50, 100))} {
		for _, room := range []int{-1, math.MaxInt} {
			first, second := solve(t, text, room), solve(t, text, room)
			want := slices.Clone(first.Values)
			values := first.Values[:cap(first.Values)]
			for i := range values {
				values[i] = !values[i]
			}
			third := solve(t, text, room)
			if !slices.Equal(second.Values, want) || !slices.Equal(third.Values, want) {
				t.Errorf("Solve(%.80q): the values are %v and %v, want %v", text, second.Values, third.Values, want)
			}
		}
	}
}
