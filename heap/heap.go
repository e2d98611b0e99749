// Package heap: what is wanted in an order, while more of it still comes.
package heap

// Heap holds things of any kind, and hands out first what comes ahead of all others.
type Heap[T any] struct {
	before func(a, b T) bool
	things []T // none comes ahead of its parent: that of the thing at i is at (i - 1) / 2
}

// New makes an empty heap. The order tells whether a comes ahead of b.
func New[T any](before func(a, b T) bool) *Heap[T] {
	return &Heap[T]{before: before}
}

// Push puts a thing in.
func (h *Heap[T]) Push(thing T) {
	h.things = append(h.things, thing)
	h.rise(len(h.things) - 1)
}

// First tells the first thing, if there is one, and leaves it in.
func (h *Heap[T]) First() (thing T, ok bool) {
	if len(h.things) == 0 {
		return thing, false
	}
	return h.things[0], true
}

// Pop takes the first thing out, if there is one.
func (h *Heap[T]) Pop() (thing T, ok bool) {
	thing, ok = h.First()
	if !ok {
		return thing, false
	}
	last := len(h.things) - 1
	h.things[0] = h.things[last]
	// What a thing points at must not be held any longer by a place that it has left.
	clear(h.things[last:])
	h.things = h.things[:last]
	h.sink()
	return thing, true
}

// rise moves a thing up to where its parent comes ahead of it.
func (h *Heap[T]) rise(place int) {
	for place > 0 {
		parent := (place - 1) / 2
		if !h.before(h.things[place], h.things[parent]) {
			return
		}
		h.swap(place, parent)
		place = parent
	}
}

// sink moves the thing at the top down to where it comes ahead of its children.
func (h *Heap[T]) sink() {
	place := 0
	for child := 1; child < len(h.things); child = 2*place + 1 {
		other := child + 1
		if other < len(h.things) && h.before(h.things[other], h.things[child]) {
			child = other
		}
		if !h.before(h.things[child], h.things[place]) {
			return
		}
		h.swap(place, child)
		place = child
	}
}

func (h *Heap[T]) swap(a, b int) {
	h.things[a], h.things[b] = h.things[b], h.things[a]
}
