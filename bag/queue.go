package bag

import "slices"

// queue is things one behind the other: new ones come last, and what goes leaves the others in their order.
type queue[T any] struct{ row []T }

func (q *queue[T]) length() int { return len(q.row) }

// all tells the row as new memory, so that nobody outside can reach the queue's own.
func (q *queue[T]) all() []T { return slices.Clone(q.row) }

// at tells what stands at a place, if there is such a place.
func (q *queue[T]) at(place int) (T, bool) {
	if place < 0 || place >= len(q.row) {
		var nothing T
		return nothing, false
	}
	return q.row[place], true
}

// add puts x behind all others.
func (q *queue[T]) add(x T) { q.row = append(q.row, x) }

// places tells where what is wished stands.
func (q *queue[T]) places(wished func(x T) bool) []int {
	var found []int
	for place, x := range q.row {
		if wished(x) {
			found = append(found, place)
		}
	}
	return found
}

// keep lets all go but what is wished, and tells how many went. The row is made anew, so that nothing of what went is held on to behind its end.
func (q *queue[T]) keep(wished func(place int, x T) bool) int {
	var kept []T
	for place, x := range q.row {
		if wished(place, x) {
			kept = append(kept, x)
		}
	}
	gone := len(q.row) - len(kept)
	q.row = kept
	return gone
}
