package search

import "assay/heap"

// order is the order in which variables are tried: busy ones first.
type order struct {
	waiting *heap.Heap[int]
	// place tells by variable where in waiting it is.
	place []int
	// busy tells by variable how much it had to do with conflicts of late.
	busy []int64
	// weight is what a conflict adds. It grows, so that what was long ago
	// counts less.
	weight int64
}

const (
	firstWeight = 1 << 16
	// The weight grows by one part of so many from conflict to conflict.
	weightParts = 8
	// If a number comes above this one, all lose so many bits.
	mostBusy = 1 << 60
	lostBits = 40
)

func newOrder(vars int) *order {
	o := &order{place: make([]int, vars), busy: make([]int64, vars), weight: firstWeight}
	o.waiting = heap.New(o.isBusier, o.setPlace)
	for v := range vars {
		o.waiting.Push(v)
	}
	return o
}

func (o *order) isBusier(a, b int) bool {
	return o.busy[a] > o.busy[b]
}

func (o *order) setPlace(variable, place int) {
	o.place[variable] = place
}

// next is the busiest variable of those that wait.
func (o *order) next() (int, bool) {
	return o.waiting.Pop()
}

// wait has a variable wait again.
func (o *order) wait(variable int) {
	if o.place[variable] == heap.Nowhere {
		o.waiting.Push(variable)
	}
}

// use makes a variable busier.
func (o *order) use(variable int) {
	o.busy[variable] += o.weight
	if o.busy[variable] > mostBusy {
		o.scale()
	}
	if o.place[variable] != heap.Nowhere {
		o.waiting.Rise(o.place[variable])
	}
}

// scale makes all numbers smaller. The heap stays as it is: no variable comes
// to be busier than one that was busier.
func (o *order) scale() {
	for v := range o.busy {
		o.busy[v] >>= lostBits
	}
	o.weight >>= lostBits
}

// age has all that was so far count less.
func (o *order) age() {
	o.weight += o.weight / weightParts
}
