package search

import (
	"errors"
	"fmt"
	"math/rand"
	"slices"
	"strings"
	"testing"

	"assay/heap"
	"assay/sink"
)

// pigeons is so many pigeons in so many holes.
func pigeons(many, holes int) (int, [][]int) {
	at := func(pigeon, hole int) int { return pigeon*holes + hole + 1 }
	var lists [][]int
	for pigeon := range many {
		var somewhere []int
		for hole := range holes {
			somewhere = append(somewhere, at(pigeon, hole))
			for other := range pigeon {
				lists = append(lists, []int{-at(pigeon, hole), -at(other, hole)})
			}
		}
		lists = append(lists, somewhere)
	}
	return many * holes, lists
}

// drawn is some clauses of mostly three literals.
func drawn(r *rand.Rand, vars, many int) [][]int {
	var lists [][]int
	for range many {
		list := make([]int, 3-r.Intn(8)/7)
		for i := range list {
			list[i] = (1 + r.Intn(vars)) * (1 - 2*r.Intn(2))
		}
		lists = append(lists, list)
	}
	return lists
}

func isMetBy(lists [][]int, values []bool) bool {
	for _, list := range lists {
		if !slices.ContainsFunc(list, func(x int) bool { return values[max(x, -x)-1] == (x > 0) }) {
			return false
		}
	}
	return true
}

// run searches step by step, and has each step looked at.
func run(t *testing.T, vars int, lists [][]int, look func(s *solver, proof string)) (*solver, int) {
	t.Helper()
	out := sink.New(-1)
	s := newSolver(vars, lists, out)
	for range 1000000 {
		state, err := s.step()
		if err != nil {
			t.Fatal("a sink that takes all failed:", err)
		}
		look(s, sink.Taken(out))
		if state != going {
			return s, state
		}
	}
	t.Fatal("the search does not end")
	return nil, 0
}

func TestLiterals(t *testing.T) {
	for written := 1; written <= 50; written++ {
		yes, no := literalOf(written), literalOf(-written)
		if yes == no || opposite(yes) != no || opposite(no) != yes || !saysTrue(yes) || saysTrue(no) {
			t.Errorf("%d: the literals are %d and %d", written, yes, no)
		}
		if variableOf(yes) != written-1 || variableOf(no) != written-1 || max(yes, no) >= 100 || min(yes, no) < 0 {
			t.Errorf("%d: the variables are %d and %d", written, variableOf(yes), variableOf(no))
		}
		if writtenOf(yes) != written || writtenOf(no) != -written {
			t.Errorf("%d is written as %d and %d", written, writtenOf(yes), writtenOf(no))
		}
	}
}

// sorted is a clause of the list as it is written, whatever its order.
func sorted(literals []int) string {
	list := make([]int, len(literals))
	for i, literal := range literals {
		list[i] = writtenOf(literal)
	}
	slices.Sort(list)
	return fmt.Sprint(list)
}

// contents is the clauses of a list that are not deleted, in their order.
func contents(c *clauses) []string {
	var all []string
	for at := 0; at < len(c.numbers); at = c.behind(at) {
		if c.kind(at) != deleted {
			all = append(all, fmt.Sprintf("%d %d %s", c.kind(at), c.busy(at), sorted(c.literals(at))))
		}
	}
	return all
}

func TestListOfClauses(t *testing.T) {
	var c clauses
	var at []int
	for size := range 6 {
		literals := []int{0, 3, 4, 7, 8}[:size]
		at = append(at, c.add(literals, []int{given, learnt}[size%2]))
		for range size {
			c.use(at[size])
		}
		if c.size(at[size]) != size || !slices.Equal(c.literals(at[size]), literals) || c.busy(at[size]) != size {
			t.Errorf("clause %d is %v, and busy is %d", size, c.literals(at[size]), c.busy(at[size]))
		}
	}
	if c.learnt != 3 || c.waste != 0 || len(c.numbers) != 6*headSize+15 {
		t.Errorf("%d are learnt, waste is %d, there are %d numbers", c.learnt, c.waste, len(c.numbers))
	}
	c.delete(at[1])
	c.delete(at[5])
	want := contents(&c)
	if c.learnt != 1 || c.waste != 2*headSize+6 || len(want) != 4 {
		t.Errorf("%d are learnt, waste is %d, there are %v", c.learnt, c.waste, want)
	}
	now := c.shorten()
	if c.learnt != 1 || c.waste != 0 || len(c.numbers) != 4*headSize+9 || !slices.Equal(contents(&c), want) {
		t.Errorf("%d are learnt, waste is %d, there are %v, want %v", c.learnt, c.waste, contents(&c), want)
	}
	for _, size := range []int{0, 2, 3, 4} {
		if is := now(at[size]); c.size(is) != size || c.busy(is) != size {
			t.Errorf("clause %d is said to be at %d", size, is)
		}
	}
	c.rest()
	if c.busy(now(at[4])) != 2 || c.busy(now(at[3])) != 1 || c.busy(now(at[0])) != 0 {
		t.Errorf("after a rest there are %v", contents(&c))
	}
}

// checkClauses looks whether the heads tell the truth, and who watches what.
func checkClauses(t *testing.T, s *solver) {
	t.Helper()
	c := &s.clauses
	many, waste, watching := 0, 0, 0
	for at := 0; at < len(c.numbers); at = c.behind(at) {
		literals := c.literals(at)
		for i, literal := range literals {
			if slices.Contains(literals[:i], literal) || slices.Contains(literals[:i], opposite(literal)) {
				t.Fatalf("the clause at %d is %v", at, literals)
			}
		}
		switch c.kind(at) {
		case deleted:
			waste += c.behind(at) - at
			continue
		case learnt:
			many++
		}
		if len(literals) < 2 {
			continue
		}
		watching += 2
		for _, literal := range literals[:2] {
			if !slices.Contains(s.watchers[literal], at) {
				t.Fatalf("the clause at %d, %v, does not watch %d", at, literals, literal)
			}
		}
	}
	for _, watchers := range s.watchers {
		watching -= len(watchers)
	}
	if c.learnt != many || c.waste != waste || watching != 0 {
		t.Fatalf("%d are learnt, waste is %d, %d watch too few; want %d, %d", c.learnt, c.waste, watching, many, waste)
	}
}

// checkTrail looks whether what is assigned has its reason, ahead of it.
func checkTrail(t *testing.T, s *solver) {
	t.Helper()
	truth := make([]int, len(s.trail.truth))
	for i, literal := range s.trail.literals {
		v := variableOf(literal)
		depth := 0
		for depth < len(s.trail.choices) && s.trail.choices[depth] <= i {
			depth++
		}
		if truth[literal] != 0 || s.trail.level[v] != depth {
			t.Fatalf("the literal %d is assigned at depth %d, want %d", literal, s.trail.level[v], depth)
		}
		if at := s.trail.reason[v]; at != none {
			literals := s.clauses.literals(at)
			notYet := func(other int) bool { return truth[other] != -1 }
			if s.clauses.kind(at) == deleted || literals[0] != literal || slices.ContainsFunc(literals[1:], notYet) {
				t.Fatalf("the clause %v is no reason for %d", literals, literal)
			}
		} else if depth == 0 || s.trail.choices[depth-1] != i {
			t.Fatalf("the literal %d has no reason", literal)
		}
		truth[literal], truth[opposite(literal)] = 1, -1
	}
	if !slices.Equal(truth, s.trail.truth) {
		t.Fatalf("truth is %v, want %v", s.trail.truth, truth)
	}
}

// checkSpread looks, where a value has just been tried, whether all had been
// made true ahead of it that is so.
func checkSpread(t *testing.T, s *solver) {
	t.Helper()
	tried := len(s.trail.literals) - 1
	if tried != s.trail.spread || s.trail.reason[variableOf(s.trail.literals[tried])] != none {
		return
	}
	ahead := s.trail.literals[:tried]
	for at := 0; at < len(s.clauses.numbers); at = s.clauses.behind(at) {
		open, isMet := 0, false
		for _, literal := range s.clauses.literals(at) {
			isMet = isMet || slices.Contains(ahead, literal)
			if !slices.Contains(ahead, opposite(literal)) {
				open++
			}
		}
		if s.clauses.kind(at) != deleted && !isMet && open < 2 {
			t.Fatalf("the clause %v has %d open literals, and is not spread", s.clauses.literals(at), open)
		}
	}
}

// checkOrder looks whether all open variables wait, and none twice.
func checkOrder(t *testing.T, s *solver) {
	t.Helper()
	many := 0
	for v, place := range s.order.place {
		if place != heap.Nowhere {
			many++
		} else if s.trail.isOpen(2 * v) {
			t.Fatalf("variable %d is open and does not wait", v)
		}
	}
	if many != s.order.waiting.Len() {
		t.Fatalf("%d wait, %d have a place", s.order.waiting.Len(), many)
	}
}

// checkProofIsList looks whether the learnt clauses are those that the proof
// has added and not deleted.
func checkProofIsList(t *testing.T, s *solver, proof string) {
	t.Helper()
	there := map[string]int{}
	for line := range strings.Lines(proof) {
		change := 1
		fields := strings.Fields(line)
		if fields[0] == "d" {
			change, fields = -1, fields[1:]
		}
		fields = fields[:len(fields)-1]
		slices.SortFunc(fields, func(a, b string) int { return number(a) - number(b) })
		there[fmt.Sprint(fields)] += change
	}
	delete(there, "[]") // the end of a proof is in no list
	for at := 0; at < len(s.clauses.numbers); at = s.clauses.behind(at) {
		if s.clauses.kind(at) == learnt {
			there[sorted(s.clauses.literals(at))]--
		}
	}
	for clause, times := range there {
		if times != 0 {
			t.Fatalf("the proof has the clause %v %d times more than the list", clause, times)
		}
	}
}

func number(token string) (n int) {
	fmt.Sscan(token, &n)
	return n
}

// All that the parts tell of each other is so after each step.
func TestPartsFitAfterEachStep(t *testing.T) {
	look := func(s *solver, proof string) {
		checkClauses(t, s)
		checkTrail(t, s)
		checkSpread(t, s)
		checkOrder(t, s)
		if len(proof) < 2000 || s.clauses.learnt%50 == 0 {
			checkProofIsList(t, s, proof)
		}
	}
	for holes := range 6 {
		for many := holes; many <= holes+1; many++ {
			vars, lists := pigeons(many, holes)
			if _, state := run(t, vars, lists, look); (state == met) != (many == holes) {
				t.Errorf("%d pigeons in %d holes: the search comes to %d", many, holes, state)
			}
		}
	}
	r := rand.New(rand.NewSource(3))
	states := make([]int, 3)
	for range 100 {
		vars := 10 + r.Intn(41)
		lists := drawn(r, vars, vars*4)
		s, state := run(t, vars, lists, look)
		states[state]++
		if state == met && !isMetBy(lists, s.values()) {
			t.Errorf("the values %v do not meet %v", s.values(), lists)
		}
	}
	if states[met] < 10 || states[never] < 10 {
		t.Errorf("%d can be met, %d cannot", states[met], states[never])
	}
}

// Learnt clauses are deleted, the list is made shorter, more than once; and
// each time what is left is what was there.
func TestListIsMadeShorter(t *testing.T) {
	vars, lists := pigeons(7, 6)
	shorter, deletions, size := 0, 0, 0
	var before []string
	_, state := run(t, vars, lists, func(s *solver, proof string) {
		checkClauses(t, s)
		checkTrail(t, s)
		deletions = strings.Count(proof, "d ")
		if len(s.clauses.numbers) < size {
			shorter++
			if s.clauses.waste != 0 {
				t.Errorf("a list that was made shorter has the waste %d", s.clauses.waste)
			}
			checkLeft(t, before, contents(&s.clauses))
		}
		if s.clauses.learnt > s.most || s.clauses.waste > len(s.clauses.numbers)/2 {
			t.Errorf("%d clauses are learnt, of %d numbers %d are waste", s.clauses.learnt, len(s.clauses.numbers), s.clauses.waste)
		}
		size = len(s.clauses.numbers)
		if s.clauses.learnt == s.most { // with the next one there are too many
			before = contents(&s.clauses)
		}
	})
	if state != never || shorter < 2 || deletions < 100 {
		t.Errorf("the search comes to %d; the list was made shorter %d times, with %d deletions", state, shorter, deletions)
	}
}

// checkLeft looks whether what is left was there, in the same order, with all
// that was given.
func checkLeft(t *testing.T, before, left []string) {
	t.Helper()
	place := 0
	literalsOf := func(clause string) string { return clause[strings.Index(clause, "["):] }
	for _, clause := range left[:len(left)-1] { // the last one has just been learnt
		for place < len(before) && literalsOf(before[place]) != literalsOf(clause) {
			if before[place][0] == '0' {
				t.Fatalf("%v was given, and is gone", before[place])
			}
			place++
		}
		if place == len(before) {
			t.Fatalf("%v is left and was not there", clause)
		}
		place++
	}
}

// The busier half stays; what is the reason for a value stays; and so does
// what is short.
func TestForgetTakesTheIdle(t *testing.T) {
	out := sink.New(-1)
	s := newSolver(50, nil, out)
	for v := 1; v <= 42; v++ {
		size := 3 + v%2
		literals := make([]int, size)
		for i := range literals {
			literals[i] = literalOf(v + i)
		}
		at := s.clauses.add(literals, learnt)
		s.watch(at)
		for range v / 4 {
			s.clauses.use(at)
		}
		if v == 1 {
			s.trail.assign(literals[0], at)
		}
	}
	short := s.clauses.add([]int{literalOf(49), literalOf(-50)}, learnt)
	s.watch(short)
	s.most = 42
	if err := s.forget(); err != nil {
		t.Fatal(err)
	}
	checkClauses(t, s)
	var want strings.Builder
	for _, v := range []int{3, 2, 5, 7, 4, 6, 9, 11, 8, 10, 13, 15, 12, 14, 17, 19, 16, 18, 21, 23} {
		want.WriteString("d ")
		for i := range 3 + v%2 {
			fmt.Fprint(&want, v+i, " ")
		}
		want.WriteString("0\n")
	}
	if got := sink.Taken(out); got != want.String() {
		t.Errorf("these were deleted:\n%swant:\n%s", got, want.String())
	}
	if s.clauses.learnt != 23 || s.most <= 42 {
		t.Errorf("%d are left, %d are not too many", s.clauses.learnt, s.most)
	}
	if left := contents(&s.clauses); left[len(left)-2] != "1 5 [42 43 44]" {
		t.Errorf("the busiest is now %q, want it half as busy", left[len(left)-2])
	}
	if err := s.forget(); err != nil || sink.Taken(out) != want.String() {
		t.Errorf("too few are forgotten too: %v", err)
	}
}

// A conflict makes busier what had to do with it, and nothing else; the lesson
// is what stands for it, with nothing that follows from the rest.
func TestLessonOfAConflict(t *testing.T) {
	lists := [][]int{{-1, 2}, {-1, -2, 3}, {-4, 5}, {-5, -3, 6}, {-5, -6, 7}, {-6, -7, -1}, {8, 9}}
	out := sink.New(-1)
	s := newSolver(9, lists, out)
	s.spread()
	for _, written := range []int{-9, 1, 4} {
		s.trail.choose(literalOf(written))
		if conflict := s.spread(); (conflict != none) != (written == 4) {
			t.Fatalf("after %d the conflict is at %d", written, conflict)
		} else if conflict == none {
			continue
		} else if err := s.learn(conflict); err != nil {
			t.Fatal(err)
		}
	}
	// 3 follows from 1, and so 1 alone stands for both.
	if got := sink.Taken(out); got != "-5 -1 0\n" {
		t.Errorf("the lesson is %q", got)
	}
	for v, busy := range s.order.busy {
		if want := slices.Contains([]int{1, 3, 5, 6, 7}, v+1); (busy > 0) != want {
			t.Errorf("variable %d is busy: %d, want it: %v", v+1, busy, want)
		}
	}
	want := []string{"0 0 [-1 2]", "0 0 [-2 -1 3]", "0 0 [-4 5]", "0 1 [-5 -3 6]", "0 1 [-6 -5 7]", "0 1 [-7 -6 -1]", "0 0 [8 9]", "1 0 [-5 -1]"}
	if got := contents(&s.clauses); !slices.Equal(got, want) {
		t.Errorf("the clauses are %q, want %q", got, want)
	}
	if s.trail.depth() != 2 || !s.trail.isTrue(literalOf(-5)) || !s.trail.isOpen(literalOf(4)) || !s.trail.isTrue(literalOf(3)) {
		t.Errorf("the search goes on with %v", s.trail)
	}
}

// A value that was taken back is the first to be tried again.
func TestTriesWhatWasLast(t *testing.T) {
	s := newSolver(3, nil, sink.New(-1))
	for _, written := range []int{1, -2} {
		s.trail.choose(literalOf(written))
	}
	s.back(0)
	for s.tryValue() {
	}
	if got := s.values(); !slices.Equal(got, []bool{true, false, false}) || s.trail.depth() != 3 {
		t.Errorf("the values are %v", got)
	}
}

// The numbers of the order stay within what an int64 holds, and the heap
// stays a heap when they are made smaller.
func TestOrderOfVariables(t *testing.T) {
	o := newOrder(20)
	r := rand.New(rand.NewSource(5))
	smaller := 0
	for range 3000 {
		weight := o.weight
		o.use(r.Intn(20))
		if o.weight < weight {
			smaller++
		}
		o.age()
		if o.weight <= weightParts || slices.Min(o.busy) < 0 {
			t.Fatalf("the weight is %d, busy are %v", o.weight, o.busy)
		}
	}
	if smaller < 3 {
		t.Errorf("the numbers were made smaller %d times", smaller)
	}
	busiest := slices.Max(o.busy)
	for range 20 {
		v, ok := o.next()
		if !ok || o.busy[v] > busiest {
			t.Fatalf("next is %d, %v, which is busier than the one ahead", v, ok)
		}
		busiest = o.busy[v]
		if o.place[v] != heap.Nowhere {
			t.Errorf("%d is given out and has the place %d", v, o.place[v])
		}
	}
	if _, ok := o.next(); ok {
		t.Error("there are more than all variables")
	}
	o.wait(7)
	o.wait(7)
	if v, ok := o.next(); v != 7 || !ok || o.waiting.Len() != 0 {
		t.Errorf("7 waits, next is %d, %v, and %d wait", v, ok, o.waiting.Len())
	}
}

// failing is a sink that fails after so many writes.
type failing struct {
	left, behind int
	text         strings.Builder
}

var errFailing = errors.New("failing")

func (f *failing) Write(p []byte) (int, error) {
	if f.left == 0 {
		f.behind++
		return 0, errFailing
	}
	f.left--
	return f.text.Write(p)
}

// The search ends with the first write that fails, with its error, and tries
// no other; the writes ahead of it are the same, whatever comes.
func TestRunEndsWithAFailure(t *testing.T) {
	vars, lists := pigeons(6, 5)
	whole := sink.New(-1)
	if _, isMet, err := Run(vars, lists, whole); isMet || err != nil {
		t.Fatalf("6 pigeons in 5 holes: %v, %v", isMet, err)
	}
	lines := strings.SplitAfter(sink.Taken(whole), "\n")
	lines = lines[:len(lines)-1]
	if !slices.ContainsFunc(lines, func(line string) bool { return line[0] == 'd' }) {
		t.Error("nothing is deleted")
	}
	for left := range len(lines) + 2 {
		f := &failing{left: left}
		values, isMet, err := Run(vars, lists, f)
		wantErr, behind := errFailing, 1
		if left >= len(lines) {
			wantErr, behind = nil, 0
		}
		if values != nil || isMet || err != wantErr || f.behind != behind {
			t.Fatalf("%d writes: %v, %v, %v, and %d failed", left, values, isMet, err, f.behind)
		}
		if f.text.String() != strings.Join(lines[:min(left, len(lines))], "") {
			t.Fatalf("%d writes are others than without a failure", left)
		}
	}
}

// What can be met with no conflict needs no write.
func TestRunWithoutAWrite(t *testing.T) {
	for _, lists := range [][][]int{nil, {{1}}, {{1, -1}}, {{1, 2}, {-1, 3}}, {{-1}, {1, 2}, {-2, 3}}} {
		f := &failing{}
		values, isMet, err := Run(3, lists, f)
		if len(values) != 3 || !isMet || err != nil || f.behind != 0 || !isMetBy(lists, values) {
			t.Errorf("Run(%v) = %v, %v, %v, and %d writes", lists, values, isMet, err, f.behind)
		}
	}
}

// What comes in is not changed.
func TestRunChangesNoList(t *testing.T) {
	lists := [][]int{{3, 1, 3, -2}, {2, -2}, {-3, -1}, {1, 1}, {2, 3}, {-2, 3, -1}}
	want := fmt.Sprint(lists)
	Run(3, lists, sink.New(-1))
	if got := fmt.Sprint(lists); got != want {
		t.Errorf("the lists are now %v, want %v", got, want)
	}
}
