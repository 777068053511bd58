package eval

import (
	"iter"
	"strings"

	"shyard/api"
	"shyard/octet"
)

// gate is how a shell asks the kernel.
type gate struct {
	yield    func(*api.Ask) bool
	gone     bool // nobody takes what is asked any more
	replaced bool // another program has taken the process over
	asked    bool // something was asked since the last command began
	calls    int
}

// ask asks the kernel. When nobody takes that any more, all is refused, and the shell is over.
func (sh *shell) ask(c api.Call) api.Result {
	a := &api.Ask{Call: c}
	sh.pass(a)
	return a.Result
}

func (sh *shell) pass(a *api.Ask) bool {
	sh.gate.asked = true
	sh.gate.calls++
	if sh.gate.gone || !sh.gate.yield(a) {
		sh.gate.gone = true
		a.Result = api.Result{Err: api.EIO}
		sh.end(sh.status)
	}
	return !sh.gate.gone
}

// tick sees to it that there is a call between two commands.
func (sh *shell) tick() {
	if !sh.gate.asked {
		sh.ask(api.Call{No: api.SysTick})
	}
	sh.gate.asked = false
}

// round is a loop's round; one that has asked nothing asks something in the end,
// as it may be that no command was run in it.
func (sh *shell) round(run func()) {
	calls := sh.gate.calls
	run()
	if sh.goesOn() && sh.gate.calls == calls {
		sh.ask(api.Call{No: api.SysTick})
	}
}

// replace has another program go on as this process.
func (sh *shell) replace(p iter.Seq[*api.Ask]) {
	sh.closeSaved()
	for a := range p {
		if !sh.pass(a) {
			break
		}
	}
	sh.gate.replaced = true
	sh.end(sh.status)
}

// write writes all of a text to a descriptor; what can't be written is lost.
func (sh *shell) write(fd int, s string) {
	for s != "" {
		x := sh.ask(api.Call{No: api.SysWrite, A: fd, S: s})
		if x.Err != api.OK {
			return
		}
		s = s[min(max(x.N, 0), len(s)):]
	}
}

// readAll reads a descriptor up to its end.
func (sh *shell) readAll(fd int) (string, api.Errno) {
	var text strings.Builder
	for {
		x := sh.ask(api.Call{No: api.SysRead, A: fd, B: api.MaxBytes})
		if x.Err != api.OK {
			return "", x.Err
		}
		if x.S == "" {
			return text.String(), api.OK
		}
		text.WriteString(x.S)
	}
}

// readFile reads all of the file at a path.
func (sh *shell) readFile(path string) (string, api.Errno) {
	x := sh.ask(api.Call{No: api.SysOpen, S: path, A: api.OpenRead})
	if x.Err != api.OK {
		return "", x.Err
	}
	text, err := sh.readAll(x.N)
	sh.close(x.N)
	return text, err
}

func (sh *shell) close(fd int) {
	sh.ask(api.Call{No: api.SysClose, A: fd})
}

// move gives what a descriptor names to another one, and frees it.
func (sh *shell) move(from, to int) {
	if from != to {
		sh.ask(api.Call{No: api.SysDup2, A: from, B: to})
		sh.close(from)
	}
}

// complain complains of something and a number.
func (sh *shell) complain(what string, err api.Errno) {
	if what != "" {
		what += ": "
	}
	sh.write(2, "shyard: "+what+octet.Decimal(int64(err))+"\n")
}

// fatal complains, and ends the shell.
func (sh *shell) fatal(what string, err api.Errno) {
	sh.complain(what, err)
	sh.end(1)
}

// usage complains of a built-in's arguments.
func (sh *shell) usage(name string) {
	sh.write(2, "shyard: "+name+": usage\n")
	sh.status = 2
}
