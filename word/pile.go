package word

// pile is what lies one upon the other.
type pile[T any] struct {
	items []T
}

func (p *pile[T]) push(x T) {
	p.items = append(p.items, x)
}

func (p *pile[T]) all() []T {
	return p.items
}

// run gathers bytes that belong together, so that joining them costs no more than their number.
type run struct {
	bytes  []byte
	quoted bool
	open   bool
}
