package heap_test

import (
	"math/rand"
	"slices"
	"strings"
	"testing"

	"assay/heap"
)

// job is an item whose rank may change; the one of the highest rank goes first.
type job struct {
	rank, place int
}

func newJobs() *heap.Heap[*job] {
	return heap.New(
		func(a, b *job) bool { return a.rank > b.rank },
		func(j *job, place int) { j.place = place },
	)
}

func TestPopGivesOutInOrder(t *testing.T) {
	for _, words := range []string{"", "a", "a b", "b a", "c b a", "a b c", "b b b", "q w e r t y u i o p a s d f g h j k l z x c v b n m"} {
		h := heap.New(func(a, b string) bool { return a < b }, func(string, int) {})
		want := strings.Fields(words)
		for i, word := range want {
			h.Push(word)
			if h.Len() != i+1 {
				t.Fatalf("Len is %d after %d items", h.Len(), i+1)
			}
		}
		slices.Sort(want)
		for _, word := range want {
			if got, ok := h.Pop(); !ok || got != word {
				t.Fatalf("of %q Pop gives out %q, %v, want %q", words, got, ok, word)
			}
		}
		if got, ok := h.Pop(); ok || got != "" || h.Len() != 0 {
			t.Errorf("an empty heap gives out %q, %v, and has %d", got, ok, h.Len())
		}
	}
}

// checkPlaces asks each item whether it was told its place: the places of the
// items are all places, and none goes ahead of the one above it.
func checkPlaces(t *testing.T, h *heap.Heap[*job], jobs []*job) {
	t.Helper()
	at := make([]*job, h.Len())
	for _, j := range jobs {
		if j.place == heap.Nowhere {
			continue
		}
		if at[j.place] != nil {
			t.Fatalf("two items are at %d", j.place)
		}
		at[j.place] = j
	}
	for place, j := range at {
		if j == nil {
			t.Fatalf("no item is at %d", place)
		}
		if above := at[max(0, place-1)/2]; above.rank < j.rank {
			t.Fatalf("rank %d at %d is above rank %d at %d", above.rank, (place-1)/2, j.rank, place)
		}
	}
}

// waiting is the highest rank of those that are in the heap.
func waiting(jobs []*job) (highest int, some bool) {
	for _, j := range jobs {
		if j.place != heap.Nowhere && (!some || j.rank > highest) {
			highest, some = j.rank, true
		}
	}
	return highest, some
}

func TestItemsComeAndGoAndRise(t *testing.T) {
	r := rand.New(rand.NewSource(1))
	for range 50 {
		h := newJobs()
		jobs := make([]*job, 1+r.Intn(30))
		for i := range jobs {
			jobs[i] = &job{r.Intn(10), heap.Nowhere}
		}
		for range 500 {
			j := jobs[r.Intn(len(jobs))]
			switch {
			case r.Intn(3) == 0:
				highest, some := waiting(jobs)
				first, ok := h.Pop()
				if ok != some || ok && (first.rank != highest || first.place != heap.Nowhere) {
					t.Fatalf("Pop gives out %v, %v, want the rank %d, %v", first, ok, highest, some)
				}
			case j.place == heap.Nowhere:
				h.Push(j)
			default:
				j.rank += r.Intn(10)
				h.Rise(j.place)
			}
			checkPlaces(t, h, jobs)
		}
	}
}
