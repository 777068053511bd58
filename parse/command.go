package parse

import (
	"shyard/api"
	"shyard/octet"
)

// entry is an and-or of a list or a body.
type entry struct {
	tree   api.Node
	parted bool // from what may stand behind it
}

// list reads the list of a complete command.
func (p *parser) list() api.Node {
	return gather(series(func() entry { return p.entry(0) }, func(e entry) bool {
		ahead := p.peek().Kind
		return e.parted && ahead != api.Newline && ahead != end
	}))
}

// body reads the body of a compound command.
func (p *parser) body(depth int) api.Node {
	p.newlines()
	read := func() entry {
		e := p.entry(depth)
		e.parted = e.parted || p.peek().Kind == api.Newline
		p.newlines()
		return e
	}
	return gather(series(read, func(e entry) bool { return e.parted && !p.closes() }))
}

// closes tells whether the token at hand ends a body.
func (p *parser) closes() bool {
	t := p.peek()
	return t.Kind == end || p.isOp(")") || p.isOp(";;") || t.Kind == api.Word && isReserved(t.Text) && !begins(t.Text)
}

func gather(l []entry) api.Node {
	if len(l) == 1 && l[0].tree.Kind != api.Async {
		return l[0].tree
	}
	n := api.Node{Kind: api.List}
	for _, e := range l {
		n.Kids = append(n.Kids, e.tree)
	}
	return n
}

func (p *parser) entry(depth int) entry {
	n := p.andOr(depth)
	if p.took("&") {
		return entry{api.Node{Kind: api.Async, Kids: []api.Node{n}}, true}
	}
	return entry{n, p.took(";")}
}

func (p *parser) andOr(depth int) api.Node {
	n := p.pipeline(depth)
	for {
		kind := api.And
		if p.isOp("||") {
			kind = api.Or
		} else if !p.isOp("&&") {
			return n
		}
		p.next()
		p.newlines()
		n = api.Node{Kind: kind, Kids: []api.Node{n, p.pipeline(depth)}}
	}
}

func (p *parser) pipeline(depth int) api.Node {
	p.asksDepth(depth)
	not := p.isWord("!")
	if not {
		p.next()
	}
	l := series(func() api.Node { return p.command(depth) }, func(api.Node) bool {
		if !p.took("|") {
			return false
		}
		p.newlines()
		return true
	})
	if len(l) == 1 && !not {
		return l[0]
	}
	return api.Node{Kind: api.Pipe, Not: not, Kids: l}
}

// asksDepth refuses what would begin at the token at hand, whatever that is.
func (p *parser) asksDepth(depth int) {
	if t := p.peek(); depth > api.MaxNest {
		p.fail(t.At, api.ErrNest)
	}
}

func (p *parser) command(depth int) api.Node {
	t := p.peek()
	if p.isOp("(") || t.Kind == api.Word && isReserved(t.Text) {
		return p.compound(depth)
	}
	return p.simple(depth)
}

// simple reads a simple command or a function.
func (p *parser) simple(depth int) api.Node {
	n := api.Node{Kind: api.Simple}
	for {
		switch t := p.peek(); {
		case p.isRedirection():
			n.Redirs = append(n.Redirs, p.redirection())
		case t.Kind == api.Word:
			p.need(len(n.Words) > 0 || !isReserved(t.Text))
			n.Words = append(n.Words, t.Text)
			if len(n.Words) == 1 && len(n.Redirs) == 0 && p.isOp("(") && octet.Name(t.Text) {
				return p.function(t.Text, depth)
			}
		default:
			if len(n.Words) == 0 && len(n.Redirs) == 0 {
				p.need(false)
			}
			return n
		}
	}
}

// function reads what stands behind a function's name.
func (p *parser) function(name string, depth int) api.Node {
	p.next()
	p.need(p.isOp(")"))
	p.newlines()
	p.asksDepth(depth + 1)
	return api.Node{Kind: api.Function, Name: name, Kids: []api.Node{p.compound(depth + 1)}}
}

func (p *parser) isRedirection() bool {
	t := p.peek()
	return t.Kind == api.Number || t.Kind == api.Op && (t.Text[0] == '<' || t.Text[0] == '>')
}

func (p *parser) redirections() []api.Redir {
	if !p.isRedirection() {
		return nil
	}
	return series(p.redirection, func(api.Redir) bool { return p.isRedirection() })
}

func (p *parser) redirection() api.Redir {
	r := api.Redir{Fd: -1}
	if t := p.peek(); t.Kind == api.Number {
		n, ok := octet.Number(t.Text)
		p.need(ok && n <= 9)
		r.Fd = int(n)
	}
	r.Op = p.next().Text
	t := p.need(p.peek().Kind == api.Word)
	if r.Op == "<<" || r.Op == "<<-" {
		r.Op, r.Doc, r.Raw = "<<", t.Doc, t.Raw
	} else {
		r.Word = t.Text
	}
	return r
}

func isReserved(s string) bool {
	switch s {
	case "}", "do", "done", "elif", "else", "esac", "fi", "in", "then":
		return true
	}
	return begins(s)
}

// begins tells whether a reserved word may begin a pipeline.
func begins(s string) bool {
	switch s {
	case "!", "{", "case", "for", "if", "until", "while":
		return true
	}
	return false
}
