// Package heap tells who comes next.
package heap

// Heap holds things of one type, and gives them out in their order, whatever
// came in between.
type Heap[T any] struct {
	before func(a, b T) bool
	things []T // neither of those at 2*i+1 and 2*i+2 comes before that at i
}

// New makes a heap without things, in which a thing is given out ahead of
// those that it comes before.
func New[T any](before func(a, b T) bool) *Heap[T] { return &Heap[T]{before: before} }

// Push puts a thing in.
func (h *Heap[T]) Push(thing T) {
	h.things = append(h.things, thing)
	h.rise(len(h.things) - 1)
}

// Pop takes out the thing that comes first, and tells whether there was one.
func (h *Heap[T]) Pop() (T, bool) {
	var nothing T
	if len(h.things) == 0 {
		return nothing, false
	}
	first, last := h.things[0], len(h.things)-1
	h.things[0] = h.things[last]
	h.things[last] = nothing // what was given out is not held on to
	h.things = h.things[:last]
	h.sink(0)
	return first, true
}

// rise brings a thing up until it does not come before the one above it.
func (h *Heap[T]) rise(at int) {
	for at > 0 {
		above := (at - 1) / 2
		if !h.before(h.things[at], h.things[above]) {
			return
		}
		h.swap(at, above)
		at = above
	}
}

// sink brings a thing down until none below it comes before it.
func (h *Heap[T]) sink(at int) {
	for {
		first := h.firstOf(h.firstOf(at, 2*at+1), 2*at+2)
		if first == at {
			return
		}
		h.swap(at, first)
		at = first
	}
}

// firstOf is the place of that thing of the two which comes first; there may
// be none at the second place.
func (h *Heap[T]) firstOf(at, other int) int {
	if other < len(h.things) && h.before(h.things[other], h.things[at]) {
		return other
	}
	return at
}

func (h *Heap[T]) swap(a, b int) { h.things[a], h.things[b] = h.things[b], h.things[a] }
