// Package heap keeps items in the order in which they are to be given out.
package heap

// Nowhere is the place of an item that is not in a heap.
const Nowhere = -1

// Heap gives out the item that goes ahead of all others. The item at place i
// is behind none of those at the places 2i+1 and 2i+2.
type Heap[T any] struct {
	items  []T
	ahead  func(a, b T) bool
	placed func(item T, place int)
}

// New makes an empty heap: ahead tells whether a goes ahead of b, placed is
// told the place of an item whenever that has changed.
func New[T any](ahead func(a, b T) bool, placed func(item T, place int)) *Heap[T] {
	return &Heap[T]{ahead: ahead, placed: placed}
}

// Len is how many items there are.
func (h *Heap[T]) Len() int {
	return len(h.items)
}

// Push lays an item to those that are there.
func (h *Heap[T]) Push(item T) {
	h.items = append(h.items, item)
	h.Rise(len(h.items) - 1)
}

// Pop gives out the item that goes ahead of all others; the bool says whether
// there was one.
func (h *Heap[T]) Pop() (T, bool) {
	var first T
	if len(h.items) == 0 {
		return first, false
	}
	first = h.items[0]
	last := len(h.items) - 1
	item := h.items[last]
	h.items = h.items[:last]
	if last > 0 {
		h.fall(item)
	}
	h.placed(first, Nowhere)
	return first, true
}

// Rise puts right the place of an item that goes further ahead than it did.
func (h *Heap[T]) Rise(place int) {
	item := h.items[place]
	for place > 0 {
		above := (place - 1) / 2
		if !h.ahead(item, h.items[above]) {
			break
		}
		h.put(place, h.items[above])
		place = above
	}
	h.put(place, item)
}

// fall finds the place for an item, from the first one on, which is free.
func (h *Heap[T]) fall(item T) {
	place := 0
	for {
		below, ok := h.firstBelow(place)
		if !ok || !h.ahead(h.items[below], item) {
			break
		}
		h.put(place, h.items[below])
		place = below
	}
	h.put(place, item)
}

// firstBelow is the place, of the two below a place, whose item goes ahead of
// the other's; the bool says whether there is one.
func (h *Heap[T]) firstBelow(place int) (int, bool) {
	left, right := 2*place+1, 2*place+2
	if right < len(h.items) && h.ahead(h.items[right], h.items[left]) {
		return right, true
	}
	return left, left < len(h.items)
}

func (h *Heap[T]) put(place int, item T) {
	h.items[place] = item
	h.placed(item, place)
}
