package parse

import (
	"shyard/api"
	"shyard/lex"
)

// end is the kind of the token behind all others.
const end = 0

// parser reads a text from the left; a line is asked for when the tokens at hand are used up.
type parser struct {
	text   string
	at     int // where the next line begins
	tokens []api.Token
	ended  bool
	place  int
	err    api.Errno
}

// fail keeps the first error; behind it there are no tokens any more, so that all reading ends.
func (p *parser) fail(place int, err api.Errno) {
	if p.err == api.OK {
		p.place, p.err = place, err
	}
	p.tokens, p.ended = nil, true
}

func (p *parser) peek() api.Token {
	for len(p.tokens) == 0 && !p.ended {
		l, next, place, err := lex.Line(p.text, p.at)
		if err != api.OK {
			p.fail(place, err)
			break
		}
		p.tokens, p.at = l, next
		p.ended = next == len(p.text)
	}
	if len(p.tokens) == 0 {
		return api.Token{Kind: end, At: len(p.text)}
	}
	return p.tokens[0]
}

func (p *parser) next() api.Token {
	t := p.peek()
	if len(p.tokens) > 0 {
		p.tokens = p.tokens[1:]
	}
	return t
}

// need takes the token at hand, if it may stand there; else it is the error.
func (p *parser) need(may bool) api.Token {
	if !may {
		p.fail(p.peek().At, api.ErrSyntax)
	}
	return p.next()
}

func (p *parser) isOp(text string) bool {
	t := p.peek()
	return t.Kind == api.Op && t.Text == text
}

func (p *parser) isWord(text string) bool {
	t := p.peek()
	return t.Kind == api.Word && t.Text == text
}

// took takes the operator, if it is at hand.
func (p *parser) took(operator string) bool {
	there := p.isOp(operator)
	if there {
		p.next()
	}
	return there
}

func (p *parser) newlines() {
	for p.peek().Kind == api.Newline {
		p.next()
	}
}

// series reads one thing, and others behind it as long as more tells so of the last one.
func series[T any](read func() T, more func(T) bool) []T {
	x := read()
	l := []T{x}
	for more(x) {
		x = read()
		l = append(l, x)
	}
	return l
}
