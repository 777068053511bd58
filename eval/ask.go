package eval

import (
	"iter"

	"shyard/api"
	"shyard/octet"
)

// tick sees to it that there is a call between two commands.
func (sh *shell) tick() {
	if sh.Calls() == sh.ticked {
		sh.Ask(api.Call{No: api.SysTick})
	}
	sh.ticked = sh.Calls()
}

// round is a loop's round; one that has asked nothing asks something in the end,
// as it may be that no command was run in it.
func (sh *shell) round(run func()) {
	calls := sh.Calls()
	run()
	if sh.goesOn() && sh.Calls() == calls {
		sh.Ask(api.Call{No: api.SysTick})
	}
}

// replace has another program go on as this process.
func (sh *shell) replace(p iter.Seq[*api.Ask]) {
	sh.closeSaved()
	for a := range p {
		if !sh.Pass(a) {
			break
		}
	}
	sh.replaced = true
	sh.end(sh.status)
}

// move gives what a descriptor names to another one, and frees it.
func (sh *shell) move(from, to int) {
	if from != to {
		sh.Ask(api.Call{No: api.SysDup2, A: from, B: to})
		sh.Close(from)
	}
}

// complain complains of something and a number.
func (sh *shell) complain(what string, err api.Errno) {
	if what != "" {
		what += ": "
	}
	sh.Write(2, "shyard: "+what+octet.Decimal(int64(err))+"\n")
}

// fatal complains, and ends the shell.
func (sh *shell) fatal(what string, err api.Errno) {
	sh.complain(what, err)
	sh.end(1)
}

// usage complains of a built-in's arguments.
func (sh *shell) usage(name string) {
	sh.Write(2, "shyard: "+name+": usage\n")
	sh.status = 2
}
