package files

import (
	"iter"
)

// store keeps things in slots that are numbered from 1 on.
type store[T any] struct {
	slots []*T
}

// put lays x in the free slot of the least number.
func (s *store[T]) put(x T) int {
	for i, there := range s.slots {
		if there == nil {
			s.slots[i] = &x
			return i + 1
		}
	}
	s.slots = append(s.slots, &x)
	return len(s.slots)
}

// get gives what lies in a slot; nil, if it is free.
func (s *store[T]) get(n int) *T {
	if n < 1 || n > len(s.slots) {
		return nil
	}
	return s.slots[n-1]
}

func (s *store[T]) cut(n int) {
	s.slots[n-1] = nil
}

// all gives what lies in the slots, in their order.
func (s *store[T]) all() iter.Seq[*T] {
	return func(yield func(*T) bool) {
		for _, x := range s.slots {
			if x != nil && !yield(x) {
				return
			}
		}
	}
}
