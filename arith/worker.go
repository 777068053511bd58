package arith

import (
	"shyard/api"
)

// maker makes of tokens what they are worth.
type maker[T any] interface {
	number(n int64) T
	value(name string) (T, api.Errno)
	ahead(operator string, x T) T
	between(operator string, x, y T) (T, api.Errno)
	truth(x T) bool
	assign(name string, x T)
}

// worker reads an expression from the left, and has its maker make what is read.
type worker[T any] struct {
	maker  maker[T]
	tokens []token
	deep   int
	idle   int // parts around that aren't worked
	err    api.Errno
}

func work[T any](s string, m maker[T]) (T, api.Errno) {
	w := &worker[T]{maker: m}
	for t := range tokens(s) {
		w.tokens = append(w.tokens, t)
	}
	if w.peek().kind == isEnd {
		return m.number(0), api.OK
	}
	x := w.assignment()
	if w.peek().kind != isEnd {
		w.fail(api.ErrArith)
	}
	return x, w.err
}

// fail keeps the first error; without tokens nothing more is read or worked.
func (w *worker[T]) fail(err api.Errno) {
	if w.err == api.OK && err != api.OK {
		w.err = err
		w.tokens = nil
	}
}

func (w *worker[T]) peek() token {
	if len(w.tokens) == 0 {
		return token{}
	}
	return w.tokens[0]
}

func (w *worker[T]) is(operator string) bool {
	t := w.peek()
	return t.kind == isOperator && t.text == operator
}

func (w *worker[T]) next() token {
	t := w.peek()
	if len(w.tokens) > 0 {
		w.tokens = w.tokens[1:]
	}
	return t
}

func (w *worker[T]) need(operator string) {
	if !w.is(operator) {
		w.fail(api.ErrArith)
	}
	w.next()
}

func (w *worker[T]) works() bool {
	return w.idle == 0 && w.err == api.OK
}

// deeper reads what stands one deeper than what is around it.
func (w *worker[T]) deeper(read func() T) T {
	w.deep++
	defer func() { w.deep-- }()
	if w.deep > api.MaxNest {
		w.fail(api.ErrNest)
	}
	return read()
}

// aside reads a part that is worked only if it is wanted.
func (w *worker[T]) aside(wanted bool, read func() T) T {
	if wanted {
		return read()
	}
	w.idle++
	defer func() { w.idle-- }()
	return read()
}

// assignment reads an expression of rank 1.
func (w *worker[T]) assignment() T {
	if len(w.tokens) < 2 || w.tokens[0].kind != isName || !isAssignment(w.tokens[1].text) {
		return w.choice()
	}
	name, operator := w.next().text, w.next().text
	operator = operator[:len(operator)-1]
	var old T
	if operator != "" {
		old = w.value(name)
	}
	x := w.deeper(w.assignment)
	if operator != "" {
		x = w.between(operator, old, x)
	}
	if w.works() {
		w.maker.assign(name, x)
	}
	return x
}

// choice reads an expression of rank 2.
func (w *worker[T]) choice() T {
	x := w.binary(rank("||"))
	if !w.is("?") {
		return x
	}
	w.next()
	first := w.maker.truth(x)
	yes := w.deeper(func() T { return w.aside(first, w.assignment) })
	w.need(":")
	no := w.deeper(func() T { return w.aside(!first, w.choice) })
	if first {
		return yes
	}
	return no
}

// binary reads operands and the operators between them that bind at least so close.
func (w *worker[T]) binary(least int) T {
	x := w.operand()
	for w.peek().kind == isOperator && rank(w.peek().text) >= least {
		operator := w.next().text
		behind := func() T { return w.binary(rank(operator) + 1) }
		switch truth := w.maker.truth(x); operator {
		case "&&":
			y := w.aside(truth, behind)
			x = w.logic(truth && w.maker.truth(y))
		case "||":
			y := w.aside(!truth, behind)
			x = w.logic(truth || w.maker.truth(y))
		default:
			x = w.between(operator, x, behind())
		}
	}
	return x
}

func (w *worker[T]) operand() T {
	t := w.next()
	switch {
	case t.kind == isNumber:
		return w.maker.number(t.number)
	case t.kind == isName:
		return w.value(t.text)
	case t.text == "(":
		x := w.deeper(w.assignment)
		w.need(")")
		return x
	case t.text == "+" || t.text == "-" || t.text == "!" || t.text == "~":
		return w.maker.ahead(t.text, w.deeper(w.operand))
	}
	w.fail(api.ErrArith)
	var none T
	return none
}

func (w *worker[T]) logic(yes bool) T {
	if yes {
		return w.maker.number(1)
	}
	return w.maker.number(0)
}

func (w *worker[T]) value(name string) T {
	var x T
	if w.works() {
		var err api.Errno
		x, err = w.maker.value(name)
		w.fail(err)
	}
	return x
}

func (w *worker[T]) between(operator string, x, y T) T {
	var z T
	if w.works() {
		var err api.Errno
		z, err = w.maker.between(operator, x, y)
		w.fail(err)
	}
	return z
}
