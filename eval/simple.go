package eval

import (
	"shyard/api"
	"shyard/word"
)

// call is what a simple command comes to: assignments, and fields, the first of which names what is run.
type call struct {
	assignments []string
	fields      []string
	last        bool // nothing comes behind it in this process
	plain       bool // without functions
}

// simple runs a simple command.
func (sh *shell) simple(n api.Node, last bool) {
	sh.taken = taken{}
	split := 0
	for split < len(n.Words) && isAssignment(n.Words[split]) {
		split++
	}
	fields, ok := sh.fields(n.Words[split:])
	if !ok {
		return
	}
	if len(fields) > api.MaxArgs {
		sh.fatal("", api.ErrFields)
		return
	}
	stays := len(fields) == 1 && fields[0] == "exec"
	saves, ok := sh.redirect(n.Redirs, !last)
	if !ok {
		return
	}
	c := call{assignments: n.Words[:split], fields: fields, last: last}
	if len(fields) == 0 {
		sh.assignAlone(c.assignments)
	} else {
		sh.call(c)
	}
	if stays {
		sh.settle(saves)
	} else {
		sh.restore(saves)
	}
}

func isAssignment(s string) bool {
	_, _, ok := word.Assign(s)
	return ok
}

// assign makes assignments, in order; false, if one has an error: that is fatal.
func (sh *shell) assign(l []string, export bool) bool {
	for _, a := range l {
		name, value, _ := word.Assign(a)
		text, ok := sh.one(value, 0)
		if !ok {
			return false
		}
		err := sh.vars.Set(name, text)
		if err == api.OK {
			err = sh.vars.Mark(name, export, false)
		}
		if err != api.OK {
			sh.fatal(name, err)
			return false
		}
	}
	return true
}

func (sh *shell) assignAlone(l []string) {
	if !sh.assign(l, false) {
		return
	}
	sh.status = 0
	if sh.taken.there {
		sh.status = sh.taken.status
	}
}

// call runs what the first field names.
func (sh *shell) call(c call) {
	name := c.fields[0]
	work, special := builtin(name)
	body, isFunction := sh.functions[name]
	isFunction = isFunction && !special && !c.plain
	switch {
	case isFunction:
		if sh.assign(c.assignments, false) {
			sh.function(body, c.fields)
		}
	case work != nil:
		if sh.assign(c.assignments, false) {
			work(sh, c)
		}
	default:
		sh.outside(c)
	}
}
