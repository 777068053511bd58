package eval

import (
	"shyard/api"
	"shyard/expand"
	"shyard/octet"
)

// Param tells a parameter's text, and whether it is set.
func (sh *shell) Param(name string) (string, bool) {
	switch name {
	case "?":
		return octet.Decimal(int64(sh.status)), true
	case "$":
		return octet.Decimal(int64(sh.first)), true
	case "#":
		return octet.Decimal(int64(len(sh.vars.Args()))), true
	case "!":
		if sh.left == 0 {
			return "", false
		}
		return octet.Decimal(int64(sh.left)), true
	}
	if name == "" || name[0] < '0' || name[0] > '9' {
		return sh.vars.Get(name)
	}
	n, ok := octet.Number(name)
	args := sh.vars.Args()
	switch {
	case !ok || n > int64(len(args)):
		return "", false
	case n == 0:
		return sh.name, true
	}
	return args[n-1], true
}

// Args gives the positional parameters.
func (sh *shell) Args() []string {
	return sh.vars.Args()
}

// Set sets a variable.
func (sh *shell) Set(name, value string) api.Errno {
	return sh.vars.Set(name, value)
}

// Vars gives the variables that have values.
func (sh *shell) Vars() []api.Var {
	var l []api.Var
	for v := range sh.vars.All() {
		if !v.Unset {
			l = append(l, v)
		}
	}
	return l
}

// Paths gives the paths that a pattern matches.
func (sh *shell) Paths(p []api.Char) []string {
	return sh.Ask(api.Call{No: api.SysGlob, P: p}).List
}

// Command gives what a text's commands say, run by a child.
func (sh *shell) Command(text string) (string, api.Errno) {
	reads, writes, err := sh.newPipe()
	if err != api.OK {
		return "", err
	}
	pid, err := sh.start(sh.child(func(c *shell) {
		c.Close(reads)
		c.move(writes, 1)
		c.text(text, true)
	}))
	if err != api.OK {
		return "", err
	}
	sh.Close(writes)
	said, err := sh.ReadAll(reads)
	sh.Close(reads)
	sh.taken = taken{true, sh.wait(pid)}
	return said, err
}

// fields gives the fields of words, in order; false, if one has an error: that is fatal.
func (sh *shell) fields(words []string) ([]string, bool) {
	var l []string
	for _, w := range words {
		f, message, err := expand.Fields(sh, w)
		if err != api.OK {
			sh.fatal(message, err)
			return nil, false
		}
		l = append(l, f...)
	}
	return l, true
}

// one gives the text that a text of a kind means; false, if it has an error: that is fatal.
func (sh *shell) one(s string, kind int) (string, bool) {
	text, message, err := expand.One(sh, s, kind)
	if err != api.OK {
		sh.fatal(message, err)
	}
	return text, err == api.OK
}
