package eval

import (
	"iter"
	"strings"

	"shyard/api"
	"shyard/octet"
	"shyard/tests"
	"shyard/texts"
	"shyard/trees"
	"shyard/word"
)

// call is what a simple command comes to: assignments, and fields, the first of which names what is run.
type call struct {
	assignments []string
	fields      []string
	last        bool // nothing comes behind it in this process
	plain       bool // without functions
}

// simple runs a simple command.
func (sh *shell) simple(n api.Node, last bool) {
	sh.taken = taken{}
	split := 0
	for split < len(n.Words) && isAssignment(n.Words[split]) {
		split++
	}
	fields, ok := sh.fields(n.Words[split:])
	if !ok {
		return
	}
	if len(fields) > api.MaxArgs {
		sh.fatal("", api.ErrFields)
		return
	}
	stays := len(fields) == 1 && fields[0] == "exec"
	saves, ok := sh.redirect(n.Redirs, !last)
	if !ok {
		return
	}
	c := call{assignments: n.Words[:split], fields: fields, last: last}
	if len(fields) == 0 {
		sh.assignAlone(c.assignments)
	} else {
		sh.call(c)
	}
	if stays {
		sh.settle(saves)
	} else {
		sh.restore(saves)
	}
}

func isAssignment(s string) bool {
	_, _, ok := word.Assign(s)
	return ok
}

// assign makes assignments, in order; false, if one has an error: that is fatal.
func (sh *shell) assign(l []string, export bool) bool {
	for _, a := range l {
		name, value, _ := word.Assign(a)
		text, ok := sh.one(value, 0)
		if !ok {
			return false
		}
		err := sh.vars.Set(name, text)
		if err == api.OK {
			err = sh.vars.Mark(name, export, false)
		}
		if err != api.OK {
			sh.fatal(name, err)
			return false
		}
	}
	return true
}

func (sh *shell) assignAlone(l []string) {
	if !sh.assign(l, false) {
		return
	}
	sh.status = 0
	if sh.taken.any {
		sh.status = sh.taken.status
	}
}

// call runs what the first field names.
func (sh *shell) call(c call) {
	name := c.fields[0]
	work, special := builtin(name)
	body, isFunction := sh.functions[name]
	isFunction = isFunction && !special && !c.plain
	switch {
	case isFunction:
		if sh.assign(c.assignments, false) {
			sh.function(body, c.fields)
		}
	case work != nil:
		if sh.assign(c.assignments, false) {
			work(sh, c)
		}
	default:
		sh.outside(c)
	}
}

// outside runs a utility, or a file of commands.
func (sh *shell) outside(c call) {
	name := c.fields[0]
	if !isUtility(name) && !strings.Contains(name, "/") {
		const notFound = 127
		sh.complain(name, notFound)
		sh.status = notFound
		return
	}
	if c.last {
		sh.become(c)
		return
	}
	pid, err := sh.start(sh.outsider(c))
	if err != api.OK {
		sh.fatal("", err)
		return
	}
	sh.status = sh.wait(pid)
}

// outsider gives the program of a child that becomes what is outside.
func (sh *shell) outsider(c call) iter.Seq[*api.Ask] {
	if isUtility(c.fields[0]) && len(c.assignments)+len(sh.saved) == 0 {
		return utility(c.fields)
	}
	return sh.child(func(child *shell) { child.become(c) })
}

// become has this process go on as a utility, or as the shell of a file of commands.
func (sh *shell) become(c call) {
	if !sh.assign(c.assignments, true) {
		return
	}
	if isUtility(c.fields[0]) {
		sh.replace(utility(c.fields))
		return
	}
	sh.closeSaved()
	sh.file(c.fields[0], c.fields[1:])
}

func isUtility(name string) bool {
	return texts.Known(name) || trees.Known(name) || tests.Known(name)
}

func utility(fields []string) iter.Seq[*api.Ask] {
	switch {
	case texts.Known(fields[0]):
		return texts.Program(fields)
	case trees.Known(fields[0]):
		return trees.Program(fields)
	}
	return tests.Program(fields)
}

// file has this process go on as a new shell that runs a file of commands.
func (sh *shell) file(path string, args []string) {
	text, err := sh.ReadFile(path)
	if err == api.OK {
		x := sh.Ask(api.Call{No: api.SysStat, S: path})
		if err = x.Err; err == api.OK && x.Stat.Mode&64 == 0 {
			err = api.EACCES
		}
	}
	if err != api.OK {
		sh.complain(path, err)
		status := 126
		if err == api.ENOENT {
			status = 127
		}
		sh.end(status)
		return
	}
	given := sh.vars
	sh.begin(path, args)
	for v := range given.All() {
		if v.Export && !v.Unset {
			sh.vars.Set(v.Name, v.Value)
			sh.vars.Mark(v.Name, true, false)
		}
	}
	sh.text(text, true)
	sh.end(sh.status)
}

// enter begins a function's call, . or eval; false, if there are too many: that is fatal.
func (sh *shell) enter(name string) bool {
	if sh.frames >= api.MaxFrames {
		sh.fatal(name, api.ErrFrames)
		return false
	}
	sh.frames++
	return true
}

// function calls a function.
func (sh *shell) function(body api.Node, fields []string) {
	if !sh.enter(fields[0]) {
		return
	}
	args, loops := sh.vars.Args(), sh.loops
	sh.vars.SetArgs(fields[1:])
	sh.loops = 0
	sh.body(func() { sh.run(body, false) })
	sh.vars.SetArgs(args)
	sh.loops = loops
	sh.frames--
}

// body runs what return ends.
func (sh *shell) body(run func()) {
	sh.bodies++
	run()
	sh.bodies--
	if sh.flow.to == returns {
		sh.flow = flow{}
	}
}

// number reads a built-in's only argument; what there is without one; false, if it isn't as told.
func number(fields []string, without, least int64) (int64, bool) {
	if len(fields) == 1 {
		return without, true
	}
	n, ok := octet.Number(fields[1])
	return n, ok && n >= least && len(fields) == 2
}
