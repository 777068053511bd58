package parse

import (
	"shyard/api"
	"shyard/octet"
)

// compound reads a compound command with its redirections.
func (p *parser) compound(depth int) api.Node {
	var n api.Node
	if p.took("(") {
		n = api.Node{Kind: api.Sub, Kids: []api.Node{p.body(depth + 1)}}
		p.need(p.isOp(")"))
		n.Redirs = p.redirections()
		return n
	}
	switch t := p.peek(); {
	case p.tookWord("{"):
		n = api.Node{Kind: api.Group, Kids: []api.Node{p.body(depth + 1)}}
		p.needWord("}")
	case p.tookWord("if"):
		n = p.choice(depth + 1)
	case p.tookWord("while"), p.tookWord("until"):
		n = p.loop(t.Text, depth+1)
	case p.tookWord("for"):
		n = p.forEach(depth + 1)
	case p.tookWord("case"):
		n = p.cases(depth + 1)
	default:
		p.need(false)
	}
	n.Redirs = p.redirections()
	return n
}

func (p *parser) tookWord(text string) bool {
	there := p.isWord(text)
	if there {
		p.next()
	}
	return there
}

func (p *parser) needWord(text string) {
	p.need(p.isWord(text))
}

func (p *parser) choice(depth int) api.Node {
	n := api.Node{Kind: api.If}
	branches := series(func() [2]api.Node {
		condition := p.body(depth)
		p.needWord("then")
		return [2]api.Node{condition, p.body(depth)}
	}, func([2]api.Node) bool { return p.tookWord("elif") })
	for _, b := range branches {
		n.Kids = append(n.Kids, b[0], b[1])
	}
	if p.tookWord("else") {
		n.Kids = append(n.Kids, p.body(depth))
	}
	p.needWord("fi")
	return n
}

func (p *parser) loop(word string, depth int) api.Node {
	n := api.Node{Kind: api.While}
	if word == "until" {
		n.Kind = api.Until
	}
	condition := p.body(depth)
	n.Kids = []api.Node{condition, p.doGroup(depth)}
	return n
}

func (p *parser) doGroup(depth int) api.Node {
	p.needWord("do")
	body := p.body(depth)
	p.needWord("done")
	return body
}

func (p *parser) forEach(depth int) api.Node {
	t := p.peek()
	p.need(t.Kind == api.Word && octet.Name(t.Text))
	n := api.Node{Kind: api.For, Name: t.Text}
	p.newlines()
	n.In = p.tookWord("in")
	if n.In {
		for p.peek().Kind == api.Word {
			n.Words = append(n.Words, p.next().Text)
		}
		p.need(p.isOp(";") || p.peek().Kind == api.Newline)
		p.newlines()
	} else if p.took(";") {
		p.newlines()
	}
	n.Kids = []api.Node{p.doGroup(depth)}
	return n
}

func (p *parser) cases(depth int) api.Node {
	n := api.Node{Kind: api.Case}
	n.Name = p.need(p.peek().Kind == api.Word).Text
	p.newlines()
	p.needWord("in")
	p.newlines()
	for p.peek().Kind != end && !p.isWord("esac") {
		n.Words = append(n.Words, p.patterns()...)
		n.Kids = append(n.Kids, p.itemBody(depth))
		if !p.took(";;") {
			break
		}
		p.newlines()
	}
	p.needWord("esac")
	return n
}

// patterns reads the patterns of an item up to its ) , which ends them in the tree too.
func (p *parser) patterns() []string {
	p.took("(")
	l := series(func() string { return p.need(p.peek().Kind == api.Word).Text }, func(string) bool { return p.took("|") })
	p.need(p.isOp(")"))
	return append(l, ")")
}

func (p *parser) itemBody(depth int) api.Node {
	p.newlines()
	if p.isOp(";;") || p.isWord("esac") {
		return api.Node{Kind: api.List}
	}
	return p.body(depth)
}
