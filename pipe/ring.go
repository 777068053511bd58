package pipe

// ring is a queue of a bounded size, whose items stay where they were laid.
type ring[T any] struct {
	items []T
	first int
	count int
}

func newRing[T any](size int) ring[T] {
	return ring[T]{items: make([]T, size)}
}

func (r *ring[T]) room() int {
	return len(r.items) - r.count
}

// push lays an item behind the others; there must be room.
func (r *ring[T]) push(x T) {
	r.items[(r.first+r.count)%len(r.items)] = x
	r.count++
}

// pop takes the first item; there must be one.
func (r *ring[T]) pop() T {
	x := r.items[r.first]
	r.first = (r.first + 1) % len(r.items)
	r.count--
	return x
}
