package gate

import (
	"cmp"
	"iter"
	"slices"
)

// register keeps things under numbers from 1 on, none of which is given twice.
type register[T any] struct {
	rows []row[T] // by their numbers
	last int
}

type row[T any] struct {
	number int
	thing  *T
}

func (r *register[T]) put(x *T) int {
	r.last++
	r.rows = append(r.rows, row[T]{r.last, x})
	return r.last
}

func (r *register[T]) find(number int) (int, bool) {
	return slices.BinarySearchFunc(r.rows, number, func(x row[T], number int) int {
		return cmp.Compare(x.number, number)
	})
}

// get gives what stands under a number; nil, if nothing does.
func (r *register[T]) get(number int) *T {
	i, there := r.find(number)
	if !there {
		return nil
	}
	return r.rows[i].thing
}

func (r *register[T]) cut(number int) {
	if i, there := r.find(number); there {
		r.rows = slices.Delete(r.rows, i, i+1)
	}
}

func (r *register[T]) count() int {
	return len(r.rows)
}

// all looks for the next number anew at each step: who ranges over it may ask the kernel meanwhile.
func (r *register[T]) all() iter.Seq2[int, *T] {
	return func(yield func(int, *T) bool) {
		for last := 0; ; {
			i, there := r.find(last)
			if there {
				i++
			}
			if i == len(r.rows) {
				return
			}
			x := r.rows[i]
			if !yield(x.number, x.thing) {
				return
			}
			last = x.number
		}
	}
}
