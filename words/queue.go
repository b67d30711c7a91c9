package words

import (
	"iter"
	"slices"
)

// maxRoom is the room of the greatest queue.
const maxRoom = 1 << 16

// Queue is things one behind the other (A2).
type Queue[T any] struct {
	room  int
	items []T
}

// NewQueue answers a queue with room for n things (A2).
func NewQueue[T any](n int) *Queue[T] {
	// Memory comes with what is pushed: a great room of great things may never be filled.
	return &Queue[T]{room: min(max(n, 0), maxRoom)}
}

// Push makes v the last one, if there is room (A2).
func (q *Queue[T]) Push(v T) bool {
	if len(q.items) >= q.room {
		return false
	}
	q.items = append(q.items, v)
	return true
}

// Pop takes the first one out (A2).
func (q *Queue[T]) Pop() (T, bool) {
	var none T
	if len(q.items) == 0 {
		return none, false
	}
	v := q.items[0]
	// The array still has this place: what it points at must not be kept by it.
	q.items[0] = none
	q.items = q.items[1:]
	return v, true
}

// Len tells how many there are (A2).
func (q *Queue[T]) Len() int {
	return len(q.items)
}

// All ranges over all that are there when the range begins, the first one first (A2).
func (q *Queue[T]) All() iter.Seq[T] {
	return func(yield func(T) bool) {
		// A copy: who ranges may push and pop meanwhile, and still comes to an end.
		for _, v := range slices.Clone(q.items) {
			if !yield(v) {
				return
			}
		}
	}
}
