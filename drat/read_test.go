package drat_test

import (
	"slices"
	"strconv"
	"strings"
	"testing"
	"time"

	"assay/api"
	"assay/drat"
)

// reading is all that Read answers.
type reading struct {
	vars    int
	clauses [][]int
	err     api.Errno
}

func read(text string) reading {
	vars, clauses, err := drat.Read(text)
	return reading{vars, clauses, err}
}

func (a reading) equals(b reading) bool {
	return a.vars == b.vars && a.err == b.err && slices.EqualFunc(a.clauses, b.clauses, slices.Equal)
}

func checkRead(t *testing.T, text string, want reading) {
	t.Helper()
	if got := read(text); !got.equals(want) {
		t.Errorf("Read(%.60q) = %.200v, want %.200v", text, got, want)
	}
}

// checkRefused asks for just the error: no variables and no clauses (P1).
func checkRefused(t *testing.T, want api.Errno, texts ...string) {
	t.Helper()
	for _, text := range texts {
		checkRead(t, text, reading{err: want})
	}
}

// inTime fails if a piece of work goes on without an end.
func inTime(t *testing.T, work func()) {
	t.Helper()
	done := make(chan struct{})
	go func() {
		defer close(done)
		work()
	}()
	select {
	case <-done:
	case <-time.After(2 * time.Minute):
		t.Fatal("no end after two minutes")
	}
}

// comments is a text of so many bytes that is nothing but comments.
func comments(size int) string {
	if size%2 == 1 {
		return "c \n" + strings.Repeat("c\n", (size-3)/2)
	}
	return strings.Repeat("c\n", size/2)
}

func TestP3ReadOfTheDocument(t *testing.T) {
	checkRead(t, "p cnf 2 2\n1 -2 0\n2 0\n", reading{2, [][]int{{1, -2}, {2}}, api.OK})
	checkRead(t, "c hello\nc\np cnf 0 0\n", reading{0, nil, api.OK})
	checkRead(t, "p cnf 1 1\n0", reading{1, [][]int{{}}, api.OK})
	checkRead(t, "p cnf 1 1\n1 1 -1 0 \t\n", reading{1, [][]int{{1, 1, -1}}, api.OK})
	checkRefused(t, api.ErrForm, "", "p cnf 1 1\n2 0\n", "p cnf 1 1\n1\n", "p cnf 1 2\n1 0\n",
		"p cnf 1 0\n1 0\n", "p cnf 1 1\n01 0\n", "p cnf 1 1\n+1 0\n", "p cnf 1 1\n-0\n",
		"p  cnf 1 0\n", "p cnf 1 0", "cx\np cnf 1 0\n", "p cnf 1 1\nc\n1 0\n")
	checkRefused(t, api.ErrLimit, "p cnf 51 0\n", "p cnf 999999999999999999999999 0\n")
}

func TestP3ReadComments(t *testing.T) {
	plain := "p cnf 1 1\n1 0\n"
	want := reading{1, [][]int{{1}}, api.OK}
	for _, ahead := range []string{
		"c\n", "c \n", "c  \n", "c c\nc\nc \n", "c p cnf 2 2\n", "c \x00\xff\r\t\n", "c ünïcode\n", "c\nc\nc\nc\n",
	} {
		checkRead(t, ahead+plain, want)
	}
	for _, ahead := range []string{
		"c", "cc\n", "c\t\n", "c\r\n", "c\x00\n", "C\n", " c\n", "\n", "\t", "c\n\n", "c\n \n", "# x\n", "c x\ny\n", "%\n", "\ufeff",
	} {
		checkRefused(t, api.ErrForm, ahead+plain)
	}
	checkRefused(t, api.ErrForm, "c", "c\n", "c x", "c p cnf 0 0\n", "c\np cnf 0 0", "p cnf 0 0\nc", "p cnf 0 0\nc\n",
		"p cnf 0 0\nc x\n", "p cnf 1 1\n1 c\n0\n", "p cnf 1 1\n1 0\nc end\n")
}

func TestP3ReadProblemLine(t *testing.T) {
	checkRead(t, "p cnf 0 0\n", reading{0, nil, api.OK})
	checkRead(t, "p cnf 10 0\n", reading{10, nil, api.OK})
	checkRead(t, "p cnf 0 1\n0\n", reading{0, [][]int{{}}, api.OK})
	checkRead(t, "p cnf 0 10\n0 0 0 0 0 0 0 0 0 0", reading{0, slices.Repeat([][]int{{}}, 10), api.OK})
	for _, line := range []string{
		"", "p", "p ", "p cnf", "p cnf ", "p cnf 1", "p cnf 1 ", "p cnf  0", "pcnf 1 0", "p cnf1 0",
		"p  cnf 1 0", "p cnf  1 0", "p cnf 1  0", "p cnf 1 0 ", " p cnf 1 0", "p\tcnf 1 0", "p cnf\t1 0", "p cnf 1\t0", "p cnf 1 0\t",
		"p cnf 1 0\r", "p cnf 1 0 0", "P cnf 1 0", "p CNF 1 0", "p sat 1 0", "p dnf 1 0", "cnf 1 0", "p p cnf 1 0",
		"p cnf 01 0", "p cnf 00 0", "p cnf 1 00", "p cnf 1 01", "p cnf -1 0", "p cnf 1 -1", "p cnf -0 0", "p cnf 1 -0", "p cnf +1 0", "p cnf 1 +0",
		"p cnf x 0", "p cnf 1 x", "p cnf 1. 0", "p cnf 1e0 0", "p cnf 0x1 0", "p cnf 1_0 0", "p cnf 1 0c", "p cnf ١ 0", "p cnf 1\x00 0",
		"p\ncnf 1 0", "p cnf\n1 0", "p cnf 1\n0",
	} {
		checkRefused(t, api.ErrForm, line, line+"\n")
	}
	checkRefused(t, api.ErrForm, "p cnf 1 0", "p cnf 1 0 c\n", "p cnf 1 0\np cnf 1 0\n", "\np cnf 1 0\n")
}

func TestP3ReadTokens(t *testing.T) {
	want := reading{12, [][]int{{12, -1}, {}, {-10}}, api.OK}
	for _, body := range []string{
		"12 -1 0 0 -10 0", "12 -1 0\n0\n-10 0\n", "12\n-1\n0\t0\t-10\t0", " \t\n\n12 \t\n-1  0\n\n\n0 -10 0\n \t", "\n12 -1\n0 0 -10\n0   ",
	} {
		checkRead(t, "p cnf 12 3\n"+body, want)
	}
	checkRead(t, "p cnf 50 2\n50 -50 49 -49 0 1 -1 0\n", reading{50, [][]int{{50, -50, 49, -49}, {1, -1}}, api.OK})
	checkRead(t, "p cnf 3 2\n3 3 -3 3 0 2 1 3 0", reading{3, [][]int{{3, 3, -3, 3}, {2, 1, 3}}, api.OK})
	for _, token := range []string{
		"13", "-13", "100", "-100", "01", "-01", "00", "-0", "-00", "+1", "+0", "-+1", "+-1", "--1", "-", "- 1", "1-", "1-1", "-1-",
		"1,", "1.", "1.0", "1e0", "0x1", "1_1", "x", "1x", "x1", "1\r", "\r", "1\v", "1\f", "1\x00", "\x00", "\xff", "1\u00a02", "\u2003", "١", "%", "c", "p",
		"18446744073709551617", "-18446744073709551615", "9223372036854775808", "4294967297",
	} {
		checkRefused(t, api.ErrForm, "p cnf 12 1\n"+token+" 0\n", "p cnf 12 1\n12 "+token+" -1 0\n", "p cnf 12 1\n1 0\n"+token)
	}
	checkRefused(t, api.ErrForm, "p cnf 0 1\n1 0\n", "p cnf 0 1\n-1 0\n", "p cnf 12 1\n10\n", "p cnf 1 1\n1 0c\n", "p cnf 1 1\n1 0-1 0")
}

func TestP3ReadHowManyClauses(t *testing.T) {
	checkRead(t, "p cnf 5 0\n \n\t", reading{5, nil, api.OK})
	checkRead(t, "p cnf 1 2\n0 0", reading{1, [][]int{{}, {}}, api.OK})
	checkRefused(t, api.ErrForm,
		"p cnf 1 1\n", "p cnf 1 1\n \n", "p cnf 1 0\n0\n", "p cnf 1 0\n1\n", "p cnf 1 1\n1", "p cnf 1 1\n1 0 0\n", "p cnf 1 1\n1 0 1\n",
		"p cnf 1 1\n1 0 1 0\n", "p cnf 1 2\n1 0\n", "p cnf 1 2\n1 0 1\n", "p cnf 1 3\n0 0\n", "p cnf 1 1\n1 0\n-1", "p cnf 1 10\n0\n")
	many := strings.Repeat("0 ", 9900)
	checkRead(t, "p cnf 1 9900\n"+many, reading{1, slices.Repeat([][]int{{}}, 9900), api.OK})
	checkRefused(t, api.ErrForm, "p cnf 1 9901\n"+many, "p cnf 1 9899\n"+many)
}

func TestP3ReadNumbersOfAnyLength(t *testing.T) {
	long := "1" + strings.Repeat("0", 9000)
	longer := "1" + strings.Repeat("0", 9001)
	nines := strings.Repeat("9", 9000)
	checkRefused(t, api.ErrLimit,
		"p cnf 4294967296 0\n", "p cnf 4294967297 1\n1 0\n", "p cnf 9223372036854775808 0\n", "p cnf 18446744073709551616 0\n",
		"p cnf 18446744073709551617 1\n-18446744073709551617 0\n", "p cnf 18446744073709551617 1\n18446744073709551616 0\n",
		"p cnf "+long+" 0\n", "p cnf "+long+" 1\n"+long+" 0\n", "p cnf "+long+" 1\n-"+nines+" 0\n")
	checkRefused(t, api.ErrForm,
		"p cnf 18446744073709551617 1\n18446744073709551618 0\n", "p cnf 18446744073709551617 1\n-20000000000000000000 0\n",
		"p cnf "+long+" 1\n"+longer+" 0\n", "p cnf "+nines+" 1\n-"+long+" 0\n", "p cnf 50 1\n"+long+" 0\n",
		"p cnf 1 4294967297\n1 0\n", "p cnf 1 18446744073709551617\n1 0\n", "p cnf 1 18446744073709551616\n", "p cnf 1 "+long+"\n1 0\n",
		"p cnf 0"+long+" 0\n", "p cnf 1 0"+long+"\n", "p cnf "+strings.Repeat("0", 9000)+"1 0\n", "p cnf 1 1\n"+strings.Repeat("0", 9000)+"1 0\n")
}

func TestP3ReadLimits(t *testing.T) {
	checkRead(t, "p cnf 50 0\n", reading{50, nil, api.OK})
	checkRefused(t, api.ErrLimit, "p cnf 51 0\n", "p cnf 51 1\n51 0\n", "p cnf 60 0\n", "p cnf 100 0\n", "p cnf 500 0\n")
	ones := strings.Repeat("1 ", api.MaxLiterals-1)
	checkRead(t, "p cnf 1 1\n"+ones+"1 0", reading{1, [][]int{slices.Repeat([]int{1}, api.MaxLiterals)}, api.OK})
	checkRead(t, "p cnf 2 3\n"+ones+"0 0 -2 0", reading{2, [][]int{slices.Repeat([]int{1}, api.MaxLiterals-1), {}, {-2}}, api.OK})
	checkRefused(t, api.ErrLimit, "p cnf 1 1\n"+ones+"1 1 0", "p cnf 1 3\n"+ones+"0 1 0 -1 0",
		"p cnf 1 701\n"+strings.Repeat("1 0\n", api.MaxLiterals+1))
	checkRead(t, "p cnf 1 700\n"+strings.Repeat("1 0\n", api.MaxLiterals), reading{1, slices.Repeat([][]int{{1}}, api.MaxLiterals), api.OK})
}

func TestP3ReadLengthOfText(t *testing.T) {
	const plain = "p cnf 1 1\n1 0\n"
	want := reading{1, [][]int{{1}}, api.OK}
	for size := api.MaxText - 2; size <= api.MaxText; size++ {
		checkRead(t, comments(size-len(plain))+plain, want)
		checkRead(t, plain+strings.Repeat(" ", size-len(plain)), want)
		checkRefused(t, api.ErrForm, strings.Repeat("x", size), strings.Repeat("\x00", size), comments(size))
	}
	for _, size := range []int{api.MaxText + 1, api.MaxText + 2, 1 << 16, 1<<16 + 14, 1 << 24} {
		checkRefused(t, api.ErrLimit, comments(size-len(plain))+plain, plain+strings.Repeat("\n", size-len(plain)))
	}
}

func TestP1ReadOrderOfErrors(t *testing.T) {
	// Too long comes ahead of a wrong form ..
	checkRefused(t, api.ErrLimit, strings.Repeat("x", api.MaxText+1), comments(api.MaxText+1),
		"p cnf 1 1\n2 0\n"+strings.Repeat(" ", api.MaxText))
	// .. and a wrong form, wherever it stands, ahead of the other limits.
	over := strings.Repeat("1 ", api.MaxLiterals+1)
	checkRefused(t, api.ErrForm,
		"p cnf 51 1\n", "p cnf 51 0", "p cnf 51 0\n0\n", "p cnf 51 1\n52 0\n", "p cnf 51 1\n1\n", "p cnf 51 1\n51 0 x", "p cnf 51 01\n1 0\n",
		"p cnf 1 1\n"+over, "p cnf 1 2\n"+over+"0", "p cnf 1 1\n"+over+"2 0", "p cnf 1 1\n"+over+"0 0", "p cnf 1 1\n"+over+"0 x",
		"p cnf 51 1\n"+over, "p cnf 999999999999999999999999 1\n1000000000000000000000000 0\n")
	checkRefused(t, api.ErrLimit, "p cnf 51 1\n"+over+"0")
}

// TestP3ReadShortTexts holds Read against the reference at all short texts
// that can be made of the bytes that matter.
func TestP3ReadShortTexts(t *testing.T) {
	inTime(t, func() {
		for _, ahead := range []string{"p cnf 1 1\n", "p cnf 12 2\n"} {
			eachText("012- \nc", 5, func(text string) { checkRead(t, ahead+text, reference(ahead+text)) })
		}
		eachText("01 -\t\n", 5, func(text string) { checkRead(t, "p cnf "+text, reference("p cnf "+text)) })
		eachText("cp \n\t", 5, func(text string) { checkRead(t, text+"p cnf 0 0\n", reference(text+"p cnf 0 0\n")) })
	})
}

func eachText(alphabet string, most int, visit func(string)) {
	var grow func(text string)
	grow = func(text string) {
		visit(text)
		if len(text) == most {
			return
		}
		for _, letter := range alphabet {
			grow(text + string(letter))
		}
	}
	grow("")
}

// TestP3ReadEditedTexts changes one place of right texts in every way.
func TestP3ReadEditedTexts(t *testing.T) {
	inTime(t, func() {
		for _, text := range []string{
			"c hi\nc\np cnf 12 3\n1 -12 0\n0\n\t-3 3 0\n", "p cnf 50 1\n50 0", "p cnf 0 0\n", "p cnf 51 1\n-51 0\n",
		} {
			for i := range len(text) + 1 {
				checkEdits(t, text[:i], text[i:])
			}
		}
	})
}

func checkEdits(t *testing.T, ahead, behind string) {
	t.Helper()
	checkRead(t, ahead, reference(ahead))
	checkRead(t, behind, reference(behind))
	for b := range 256 {
		put := string([]byte{byte(b)})
		checkRead(t, ahead+put+behind, reference(ahead+put+behind))
		if behind != "" {
			checkRead(t, ahead+put+behind[1:], reference(ahead+put+behind[1:]))
		}
	}
	if behind != "" {
		checkRead(t, ahead+behind[1:], reference(ahead+behind[1:]))
	}
}

// P1: long texts of every byte, alone and behind what a text begins with.
func TestP1ReadEndsAtAllTexts(t *testing.T) {
	inTime(t, func() {
		for b := range 256 {
			long := strings.Repeat(string([]byte{byte(b)}), api.MaxText)
			for _, ahead := range []string{"", "c", "c ", "p cnf ", "p cnf 1 ", "p cnf 1 1\n", "p cnf 1 1\n-", "p cnf 1 1\n1 0 "} {
				text := ahead + long[len(ahead):]
				checkRead(t, text, reference(text))
			}
			checkRefused(t, api.ErrLimit, long+"x")
		}
	})
}

func FuzzP3Read(f *testing.F) {
	f.Add("c hello\nc\np cnf 2 2\n1 -2 0\n2 0\n")
	f.Add("p cnf 51 1\n51 0")
	f.Fuzz(func(t *testing.T, text string) { checkRead(t, text, reference(text)) })
}

func TestP2ReadAnswersTheSameAgain(t *testing.T) {
	texts := []string{"p cnf 2 2\n1 -2 0\n2 0\n", "", "p cnf 3 3\n3 2 1 0 0 -1 0", "p cnf 51 0\n", "p cnf 1 0\n", strings.Repeat("c", api.MaxText+1)}
	for _, text := range texts {
		first := read(text)
		for _, between := range texts {
			read(between)
		}
		// A copy at another place: an answer hangs on a text's bytes alone.
		checkRead(t, strings.Clone(text), first)
	}
}

const severalLists = "p cnf 9 6\n1 2 3 0\n0\n-4 0\n5 -6 0\n0\n7 8 -9 7 8 -9 7 0\n"

// spoil writes over a list, spare room too.
func spoil(list []int) {
	list = list[:cap(list)]
	for i := range list {
		list[i] = 1000 + i
	}
}

func TestP2ReadListsShareNoMemory(t *testing.T) {
	for i := range read(severalLists).clauses {
		got := read(severalLists).clauses
		spoil(got[i])
		for k, clause := range reference(severalLists).clauses {
			if k != i && !slices.Equal(got[k], clause) {
				t.Errorf("writing over list %d made list %d %v, want %v", i, k, got[k], clause)
			}
		}
	}
}

func TestP2ReadSpareRoomIsNotShared(t *testing.T) {
	got := read(severalLists).clauses
	for i, clause := range got {
		whole := clause[:cap(clause)]
		for k := range whole {
			whole[k] = 100 + i
		}
	}
	for i, clause := range got {
		for k, value := range clause[:cap(clause)] {
			if value != 100+i {
				t.Errorf("list %d holds %d at %d, which another list wrote", i, value, k)
			}
		}
	}
}

func TestP2ReadIsNewMemory(t *testing.T) {
	want := reference(severalLists)
	first := read(severalLists)
	second := read(severalLists)
	for _, clause := range first.clauses {
		spoil(clause)
	}
	outer := first.clauses[:cap(first.clauses)]
	for i := range outer {
		outer[i] = []int{i}
	}
	if !second.equals(want) {
		t.Errorf("writing over one answer made another one %v", second)
	}
	checkRead(t, severalLists, want)
}

func TestP2ReadAtTheSameTime(t *testing.T) {
	answers := make(chan reading)
	texts := 8
	for n := range texts {
		go func() { answers <- read("p cnf 9 1\n" + strconv.Itoa(n+1) + " 0") }()
	}
	seen := make([]int, texts)
	for range texts {
		got := <-answers
		if got.err != api.OK || len(got.clauses) != 1 || len(got.clauses[0]) != 1 {
			t.Fatalf("an answer is %v", got)
		}
		seen[got.clauses[0][0]-1]++
	}
	if !slices.Equal(seen, slices.Repeat([]int{1}, texts)) {
		t.Errorf("texts were told so often: %v", seen)
	}
}
