// Package ring has the ring in which bytes wait and in which they are looked back upon.
package ring

// Ring holds what was pushed into it last, no more than its size.
type Ring[T any] struct {
	cells  []T
	oldest int
	count  int
}

// New makes an empty ring; its size is 1 at least.
func New[T any](size int) *Ring[T] {
	return &Ring[T]{cells: make([]T, size)}
}

// Len tells how many things the ring holds.
func (r *Ring[T]) Len() int { return r.count }

// IsFull tells whether the next push costs the oldest thing.
func (r *Ring[T]) IsFull() bool { return r.count == len(r.cells) }

// Push lays a thing behind the others; the oldest gives way, if there is no room.
func (r *Ring[T]) Push(thing T) {
	if r.IsFull() {
		r.dropOldest()
	}
	r.cells[r.place(r.count)] = thing
	r.count++
}

// Clear lets the ring hold nothing.
func (r *Ring[T]) Clear() { r.count = 0 }

// Back tells what was pushed so many pushes ago: 1 is the last push, Len the farthest back.
func (r *Ring[T]) Back(pushes int) T {
	return r.cells[r.place(r.count-pushes)]
}

// Take takes the oldest things out, so many at most, as new memory.
func (r *Ring[T]) Take(most int) []T {
	taken := make([]T, max(0, min(most, r.count)))
	for i := range taken {
		taken[i] = r.cells[r.oldest]
		r.dropOldest()
	}
	return taken
}

// place tells the cell of a thing by how many are older.
func (r *Ring[T]) place(older int) int {
	return (r.oldest + older) % len(r.cells)
}

func (r *Ring[T]) dropOldest() {
	r.oldest = r.place(1)
	r.count--
}
