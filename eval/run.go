package eval

import (
	"shyard/api"
)

// run runs a tree; last: nothing comes behind it in this process.
func (sh *shell) run(n api.Node, last bool) {
	if !sh.goesOn() {
		return
	}
	switch n.Kind {
	case api.List:
		for i, k := range n.Kids {
			sh.run(k, last && i == len(n.Kids)-1)
		}
	case api.And, api.Or:
		sh.run(n.Kids[0], false)
		if sh.goesOn() && (sh.status == 0) == (n.Kind == api.And) {
			sh.run(n.Kids[1], last)
		}
	case api.Pipe:
		sh.pipe(n)
	case api.Async:
		sh.async(n.Kids[0])
	case api.Simple:
		sh.tick()
		sh.simple(n, last)
	case api.Function:
		sh.tick()
		sh.define(n)
	default:
		sh.compound(n, last)
	}
}

func (sh *shell) pipe(n api.Node) {
	if len(n.Kids) == 1 {
		sh.run(n.Kids[0], false)
	} else {
		sh.stages(n.Kids)
	}
	if n.Not && sh.goesOn() {
		sh.status = statusIf(sh.status != 0)
	}
}

func statusIf(yes bool) int {
	if yes {
		return 0
	}
	return 1
}

func (sh *shell) async(n api.Node) {
	pid, ok := sh.fork(func(c *shell) {
		c.Close(0)
		c.Ask(api.Call{No: api.SysText}) // the least descriptor that is free: 0
		c.run(n, true)
	})
	if ok {
		sh.left, sh.status = pid, 0
	}
}
