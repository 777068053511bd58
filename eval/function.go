package eval

import (
	"shyard/api"
)

// enter begins a function's call, . or eval; false, if there are too many: that is fatal.
func (sh *shell) enter(name string) bool {
	if sh.frames >= api.MaxFrames {
		sh.fatal(name, api.ErrFrames)
		return false
	}
	sh.frames++
	return true
}

// function calls a function.
func (sh *shell) function(body api.Node, fields []string) {
	if !sh.enter(fields[0]) {
		return
	}
	args, loops := sh.vars.Args(), sh.loops
	sh.vars.SetArgs(fields[1:])
	sh.loops = 0
	sh.body(func() { sh.run(body, false) })
	sh.vars.SetArgs(args)
	sh.loops = loops
	sh.frames--
}

// body runs what return ends.
func (sh *shell) body(run func()) {
	sh.bodies++
	run()
	sh.bodies--
	if sh.flow.to == returns {
		sh.flow = flow{}
	}
}

// define keeps a function.
func (sh *shell) define(n api.Node) {
	if _, there := sh.functions[n.Name]; !there && len(sh.functions) >= api.MaxVars {
		sh.fatal(n.Name, api.ErrVars)
		return
	}
	sh.functions[n.Name] = n.Kids[0]
	sh.status = 0
}
