package vars

import (
	"iter"
	"slices"
)

// ordered is a map whose keys are gone through in their order.
type ordered[V any] struct {
	keys   []string
	values []V
}

func (m *ordered[V]) get(key string) (V, bool) {
	i, there := slices.BinarySearch(m.keys, key)
	if !there {
		var none V
		return none, false
	}
	return m.values[i], true
}

func (m *ordered[V]) set(key string, value V) {
	i, there := slices.BinarySearch(m.keys, key)
	if there {
		m.values[i] = value
		return
	}
	m.keys = slices.Insert(m.keys, i, key)
	m.values = slices.Insert(m.values, i, value)
}

func (m *ordered[V]) cut(key string) {
	if i, there := slices.BinarySearch(m.keys, key); there {
		m.keys = slices.Delete(m.keys, i, i+1)
		m.values = slices.Delete(m.values, i, i+1)
	}
}

func (m *ordered[V]) count() int {
	return len(m.keys)
}

func (m *ordered[V]) copy() ordered[V] {
	return ordered[V]{slices.Clone(m.keys), slices.Clone(m.values)}
}

// all goes through the map as it was at the beginning, so that it may change meanwhile.
func (m *ordered[V]) all() iter.Seq2[string, V] {
	return func(yield func(string, V) bool) {
		now := m.copy()
		for i, key := range now.keys {
			if !yield(key, now.values[i]) {
				return
			}
		}
	}
}
