package eval

import (
	"shyard/api"
	"shyard/expand"
	"shyard/pattern"
)

// compound runs a compound command with its redirections.
func (sh *shell) compound(n api.Node, last bool) {
	saves, ok := sh.redirect(n.Redirs, !last)
	if !ok {
		return
	}
	switch n.Kind {
	case api.Sub:
		sh.sub(n.Kids[0], last)
	case api.Group:
		sh.run(n.Kids[0], last)
	case api.If:
		sh.choose(n.Kids, last)
	case api.While, api.Until:
		sh.while(n)
	case api.For:
		sh.forEach(n)
	case api.Case:
		sh.match(n, last)
	}
	sh.restore(saves)
}

func (sh *shell) sub(n api.Node, last bool) {
	if last {
		sh.loops = 0
		sh.run(n, true)
		return
	}
	if pid, ok := sh.fork(func(c *shell) { c.run(n, true) }); ok {
		sh.status = sh.wait(pid)
	}
}

func (sh *shell) choose(kids []api.Node, last bool) {
	for len(kids) > 1 {
		sh.run(kids[0], false)
		if !sh.goesOn() {
			return
		}
		if sh.status == 0 {
			sh.run(kids[1], last)
			return
		}
		kids = kids[2:]
	}
	if len(kids) == 1 {
		sh.run(kids[0], last)
		return
	}
	sh.status = 0
}

func (sh *shell) while(n api.Node) {
	sh.loops++
	status := 0
	for again := true; again; {
		sh.round(func() {
			sh.run(n.Kids[0], false)
			if sh.goesOn() && (sh.status == 0) != (n.Kind == api.While) {
				again = false
				return
			}
			sh.run(n.Kids[1], false)
			status = sh.status
			again = sh.loopGoesOn()
		})
	}
	sh.loops--
	sh.status = status
}

func (sh *shell) forEach(n api.Node) {
	items := sh.vars.Args()
	if n.In {
		var ok bool
		if items, ok = sh.fields(n.Words); !ok {
			return
		}
	}
	sh.status = 0
	sh.loops++
	for _, item := range items {
		if err := sh.vars.Set(n.Name, item); err != api.OK {
			sh.fatal(n.Name, err)
			break
		}
		again := false
		sh.round(func() {
			sh.run(n.Kids[0], false)
			again = sh.loopGoesOn()
		})
		if !again {
			break
		}
	}
	sh.loops--
}

// match runs the body of the first item one of whose patterns matches.
func (sh *shell) match(n api.Node, last bool) {
	text, ok := sh.one(n.Name, 0)
	if !ok {
		return
	}
	item := 0
	for _, w := range n.Words {
		if w == ")" {
			item++
			continue
		}
		p, message, err := expand.Pattern(sh, w)
		if err != api.OK {
			sh.fatal(message, err)
			return
		}
		if pattern.Match(p, text) {
			sh.status = 0
			sh.run(n.Kids[item], last)
			return
		}
	}
	sh.status = 0
}
