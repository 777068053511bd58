package pattern

import (
	"iter"

	"shyard/api"
)

// element is a star, or the set of the bytes that it matches.
type element struct {
	star bool
	set  [4]uint64
}

// span is the bytes from the one to the other, none if from is greater.
type span struct{ from, to byte }

// member is one or more spans; those that it doesn't need are none.
type member [3]span

func (e *element) fits(b byte) bool {
	return e.set[b/64]&(1<<(b%64)) != 0
}

func (e *element) add(s span) {
	for b := int(s.from); b <= int(s.to); b++ {
		e.set[b/64] |= 1 << (b % 64)
	}
}

func (e *element) turn() {
	for i := range e.set {
		e.set[i] = ^e.set[i]
	}
}

// elements reads the pattern once, so that trying many texts doesn't read it again.
func elements(p []api.Char) []element {
	l := make([]element, 0, len(p))
	last := lastCloser(p)
	for i := 0; i < len(p); {
		var e element
		next := i + 1
		switch {
		case bare(p[i], '*'):
			e.star = true
		case bare(p[i], '?'):
			e.add(span{0, 255})
		case bare(p[i], '[') && i < last:
			e, next = bracket(p, i)
		default:
			e.add(span{p[i].B, p[i].B})
		}
		l = append(l, e)
		i = next
	}
	return l
}

// lastCloser spares the search for a ] where none can come.
func lastCloser(p []api.Char) int {
	for i := len(p) - 1; i >= 0; i-- {
		if bare(p[i], ']') {
			return i
		}
	}
	return -1
}

// bracket reads the bracket that begins at the place at, or, if none begins, the [ itself.
func bracket(p []api.Char, at int) (element, int) {
	var e element
	first := at + 1
	turned := bare(p[first], '!')
	if turned {
		first++
	}
	end := first
	for m, next := range members(p, first) {
		for _, s := range m {
			e.add(s)
		}
		end = next
	}
	if end == len(p) {
		var itself element
		itself.add(span{'[', '['})
		return itself, at + 1
	}
	if turned {
		e.turn()
	}
	return e, end + 1
}

// members gives a bracket's members, each with the place behind it, up to the ]
// that ends the bracket or, if there is none, the pattern's end.
func members(p []api.Char, at int) iter.Seq2[member, int] {
	return func(yield func(member, int) bool) {
		for i := at; i < len(p) && (i == at || !bare(p[i], ']')); {
			m, next := memberAt(p, i)
			if !yield(m, next) {
				return
			}
			i = next
		}
	}
}

func memberAt(p []api.Char, i int) (member, int) {
	if m, next := class(p, i); next > 0 {
		return m, next
	}
	if i+2 < len(p) && bare(p[i+1], '-') && !bare(p[i+2], ']') {
		return one(span{p[i].B, p[i+2].B}), i + 3
	}
	return one(span{p[i].B, p[i].B}), i + 1
}

// class reads a class that begins at the place i; the place 0, if it isn't one of those that are known.
func class(p []api.Char, i int) (member, int) {
	if i+1 >= len(p) || !bare(p[i], '[') || !bare(p[i+1], ':') {
		return member{}, 0
	}
	var word [longestClass]byte
	n := 0
	for j := i + 2; j+1 < len(p) && !p[j].Q; j++ {
		if p[j].B == ':' {
			m, known := spansOf(string(word[:n]))
			if !known || !bare(p[j+1], ']') {
				return member{}, 0
			}
			return m, j + 2
		}
		if n == longestClass {
			break
		}
		word[n] = p[j].B
		n++
	}
	return member{}, 0
}

// longestClass: of the classes' words.
const longestClass = 5

func spansOf(word string) (member, bool) {
	upper, lower, digit := span{'A', 'Z'}, span{'a', 'z'}, span{'0', '9'}
	switch word {
	case "alpha":
		return member{upper, lower, nothing()}, true
	case "digit":
		return one(digit), true
	case "alnum":
		return member{upper, lower, digit}, true
	case "upper":
		return one(upper), true
	case "lower":
		return one(lower), true
	case "space":
		return member{{9, 13}, {' ', ' '}, nothing()}, true
	}
	return member{}, false
}

func one(s span) member {
	return member{s, nothing(), nothing()}
}

func nothing() span {
	return span{1, 0}
}
