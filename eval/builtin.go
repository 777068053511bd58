package eval

import (
	"strings"

	"shyard/api"
	"shyard/octet"
)

// builtin gives what a built-in does, and whether it is a special one; nil without one.
func builtin(name string) (func(*shell, call), bool) {
	switch name {
	case ":":
		return func(sh *shell, _ call) { sh.status = 0 }, true
	case "break", "continue":
		return (*shell).leaveLoop, true
	case "return", "exit":
		return (*shell).leave, true
	case "eval":
		return (*shell).eval, true
	case ".":
		return (*shell).dot, true
	case "exec":
		return (*shell).exec, true
	case "export", "readonly":
		return (*shell).mark, true
	case "set":
		return (*shell).set, true
	case "shift":
		return (*shell).shift, true
	case "unset":
		return (*shell).unset, true
	case "cd":
		return (*shell).cd, false
	case "read":
		return (*shell).read, false
	case "wait":
		return (*shell).waitFor, false
	case "umask":
		return (*shell).umask, false
	case "command":
		return (*shell).command, false
	}
	return nil, false
}

// number reads a built-in's only argument; what there is without one; false, if it isn't as told.
func number(fields []string, without, least int64) (int64, bool) {
	if len(fields) == 1 {
		return without, true
	}
	n, ok := octet.Number(fields[1])
	return n, ok && n >= least && len(fields) == 2
}

func (sh *shell) leaveLoop(c call) {
	n, ok := number(c.fields, 1, 1)
	if !ok {
		sh.usage(c.fields[0])
		return
	}
	sh.status = 0
	if sh.loops == 0 {
		return
	}
	sh.flow = flow{breaks, int(min(n, int64(sh.loops)))}
	if c.fields[0] == "continue" {
		sh.flow.to = repeats
	}
}

func (sh *shell) leave(c call) {
	n, ok := number(c.fields, int64(sh.status), 0)
	if !ok {
		sh.usage(c.fields[0])
		return
	}
	status := int(n % 256)
	if c.fields[0] == "return" && sh.bodies > 0 {
		sh.flow, sh.status = flow{to: returns}, status
		return
	}
	sh.end(status)
}

func (sh *shell) eval(c call) {
	if sh.enter("eval") {
		sh.text(strings.Join(c.fields[1:], " "), false)
		sh.frames--
	}
}

func (sh *shell) dot(c call) {
	if len(c.fields) != 2 {
		sh.usage(".")
		return
	}
	text, err := sh.ReadFile(c.fields[1])
	if err != api.OK {
		sh.complain(c.fields[1], err)
		sh.status = 1
		return
	}
	if sh.enter(".") {
		sh.body(func() { sh.text(text, false) })
		sh.frames--
	}
}

// exec: what is outside goes on as this process, or the process ends.
func (sh *shell) exec(c call) {
	if len(c.fields) == 1 {
		sh.status = 0
		return
	}
	sh.outside(call{fields: c.fields[1:], last: true})
	sh.end(sh.status)
}

func (sh *shell) cd(c call) {
	dir := ""
	switch len(c.fields) {
	case 1:
		dir, _ = sh.vars.Get("HOME")
	case 2:
		dir = c.fields[1]
	default:
		sh.usage("cd")
		return
	}
	sh.status = 0
	if x := sh.Ask(api.Call{No: api.SysChdir, S: dir}); x.Err != api.OK {
		sh.complain(dir, x.Err)
		sh.status = 1
	}
}

func (sh *shell) waitFor(c call) {
	const all = -1
	pid, ok := number(c.fields, all, 0)
	if !ok {
		sh.usage("wait")
		return
	}
	x := sh.Ask(api.Call{No: api.SysWait, A: int(pid)})
	if pid != all {
		sh.status = x.M
		if x.Err != api.OK {
			sh.status = 127
		}
		return
	}
	for x.Err == api.OK {
		x = sh.Ask(api.Call{No: api.SysWait, A: all})
	}
	sh.status = 0
}

func (sh *shell) umask(c call) {
	if len(c.fields) == 1 {
		// The mask is told only by setting another one.
		mask := sh.Ask(api.Call{No: api.SysUmask}).N
		sh.Ask(api.Call{No: api.SysUmask, A: mask})
		sh.Write(1, octet.Octal(mask)+"\n")
		sh.status = 0
		return
	}
	mask, ok := octet.FromOctal(c.fields[1])
	if !ok || mask > 511 || len(c.fields) > 2 {
		sh.usage("umask")
		return
	}
	sh.Ask(api.Call{No: api.SysUmask, A: mask})
	sh.status = 0
}

func (sh *shell) command(c call) {
	c = call{fields: c.fields[1:], last: c.last, plain: true}
	switch {
	case len(c.fields) == 0:
		sh.status = 0
	case c.fields[0] != "-v":
		sh.call(c)
	case len(c.fields) != 2:
		sh.usage("command")
	default:
		sh.tellKnown(c.fields[1])
	}
}

func (sh *shell) tellKnown(name string) {
	work, _ := builtin(name)
	_, isFunction := sh.functions[name]
	known := work != nil || isFunction || isUtility(name)
	if known {
		sh.Write(1, name+"\n")
	}
	sh.status = statusIf(known)
}
