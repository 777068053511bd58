package eval

import (
	"iter"
	"strings"

	"shyard/api"
	"shyard/tests"
	"shyard/texts"
	"shyard/trees"
)

// outside runs a utility, or a file of commands.
func (sh *shell) outside(c call) {
	name := c.fields[0]
	if !isUtility(name) && !strings.Contains(name, "/") {
		const notFound = 127
		sh.complain(name, notFound)
		sh.status = notFound
		return
	}
	if c.last {
		sh.become(c)
		return
	}
	pid, err := sh.start(sh.outsider(c))
	if err != api.OK {
		sh.fatal("", err)
		return
	}
	sh.status = sh.wait(pid)
}

// outsider gives the program of a child that becomes what is outside.
func (sh *shell) outsider(c call) iter.Seq[*api.Ask] {
	if isUtility(c.fields[0]) && len(c.assignments)+len(sh.saved) == 0 {
		return utility(c.fields)
	}
	return sh.child(func(child *shell) { child.become(c) })
}

// become has this process go on as a utility, or as the shell of a file of commands.
func (sh *shell) become(c call) {
	if !sh.assign(c.assignments, true) {
		return
	}
	if isUtility(c.fields[0]) {
		sh.replace(utility(c.fields))
		return
	}
	sh.closeSaved()
	sh.file(c.fields[0], c.fields[1:])
}

func isUtility(name string) bool {
	return texts.Known(name) || trees.Known(name) || tests.Known(name)
}

func utility(fields []string) iter.Seq[*api.Ask] {
	switch {
	case texts.Known(fields[0]):
		return texts.Program(fields)
	case trees.Known(fields[0]):
		return trees.Program(fields)
	}
	return tests.Program(fields)
}

// file has this process go on as a new shell that runs a file of commands.
func (sh *shell) file(path string, args []string) {
	text, err := sh.ReadFile(path)
	if err == api.OK {
		x := sh.Ask(api.Call{No: api.SysStat, S: path})
		if err = x.Err; err == api.OK && x.Stat.Mode&64 == 0 {
			err = api.EACCES
		}
	}
	if err != api.OK {
		sh.complain(path, err)
		status := 126
		if err == api.ENOENT {
			status = 127
		}
		sh.end(status)
		return
	}
	given := sh.vars
	sh.begin(path, args)
	for v := range given.All() {
		if v.Export && !v.Unset {
			sh.vars.Set(v.Name, v.Value)
			sh.vars.Mark(v.Name, true, false)
		}
	}
	sh.text(text, true)
	sh.end(sh.status)
}
