package eval

import (
	"strings"

	"shyard/api"
	"shyard/octet"
	"shyard/word"
)

// mark is export and readonly.
func (sh *shell) mark(c call) {
	export := c.fields[0] == "export"
	sh.status = 0
	if len(c.fields) == 1 {
		sh.tellMarked(c.fields[0], func(v api.Var) bool { return export && v.Export || !export && v.Readonly })
		return
	}
	for _, a := range c.fields[1:] {
		name, value, isAssignment := word.Assign(a)
		err := api.OK
		if isAssignment {
			err = sh.vars.Set(name, value)
		} else {
			name = a
		}
		if err == api.OK {
			err = sh.vars.Mark(name, export, !export)
		}
		if err != api.OK {
			sh.complain(name, err)
			sh.status = 1
		}
	}
}

func (sh *shell) tellMarked(mark string, isMarked func(api.Var) bool) {
	var said strings.Builder
	for v := range sh.vars.All() {
		if !isMarked(v) {
			continue
		}
		said.WriteString(mark + " " + v.Name)
		if !v.Unset {
			said.WriteString("=" + octet.Quote(v.Value))
		}
		said.WriteByte('\n')
	}
	sh.Write(1, said.String())
}

func (sh *shell) set(c call) {
	args := c.fields[1:]
	sh.status = 0
	switch {
	case len(args) == 0:
		var said strings.Builder
		for _, v := range sh.Vars() {
			said.WriteString(v.Name + "=" + octet.Quote(v.Value) + "\n")
		}
		sh.Write(1, said.String())
		return
	case args[0] == "--":
		args = args[1:]
	case strings.HasPrefix(args[0], "-"):
		sh.usage("set")
		return
	}
	sh.vars.SetArgs(args)
}

func (sh *shell) shift(c call) {
	n, ok := number(c.fields, 1, 0)
	if !ok {
		sh.usage("shift")
		return
	}
	sh.status = 0
	if err := sh.vars.Shift(int(n)); err != api.OK {
		sh.complain("shift", err)
		sh.status = 1
	}
}

func (sh *shell) unset(c call) {
	args, functions := c.fields[1:], false
	for len(args) > 0 && strings.HasPrefix(args[0], "-") {
		if args[0] != "-f" && args[0] != "-v" {
			sh.usage("unset")
			return
		}
		functions = args[0] == "-f"
		args = args[1:]
	}
	sh.status = 0
	for _, name := range args {
		if functions {
			delete(sh.functions, name)
			continue
		}
		if err := sh.vars.Unset(name); err != api.OK {
			sh.complain(name, err)
			sh.status = 1
		}
	}
}

// read takes a line of the input.
func (sh *shell) read(c call) {
	names := c.fields[1:]
	for _, name := range names {
		if !octet.Name(name) {
			names = nil
			break
		}
	}
	if len(names) == 0 {
		sh.usage("read")
		return
	}
	line, ended, err := sh.readLine()
	if err != api.OK {
		sh.complain("read", err)
		sh.status = 1
		return
	}
	sh.status = statusIf(ended)
	s := splitter{rest: line, ifs: sh.separators()}
	for i, name := range names {
		value := s.whole()
		if i < len(names)-1 {
			value = s.next()
		}
		if err := sh.vars.Set(name, value); err != api.OK {
			sh.complain(name, err)
			sh.status = 1
		}
	}
}

// readLine reads byte by byte, so that what is behind the line is left to others.
func (sh *shell) readLine() (string, bool, api.Errno) {
	var line strings.Builder
	for {
		x := sh.Ask(api.Call{No: api.SysRead, B: 1})
		if x.Err != api.OK || x.S == "" || x.S == "\n" {
			return line.String(), x.S == "\n", x.Err
		}
		line.WriteString(x.S)
	}
}

func (sh *shell) separators() string {
	if ifs, set := sh.vars.Get("IFS"); set {
		return ifs
	}
	return "\t\n "
}

// splitter parts a line by the bytes of ifs, from the left.
type splitter struct {
	rest, ifs string
}

// soft gives the separators that may stand in any number.
func (s *splitter) soft() string {
	var soft strings.Builder
	for _, b := range []byte("\t\n ") {
		if strings.IndexByte(s.ifs, b) >= 0 {
			soft.WriteByte(b)
		}
	}
	return soft.String()
}

func (s *splitter) next() string {
	soft := s.soft()
	s.rest = strings.TrimLeft(s.rest, soft)
	end := 0
	for end < len(s.rest) && strings.IndexByte(s.ifs, s.rest[end]) < 0 {
		end++
	}
	value := s.rest[:end]
	s.rest = strings.TrimLeft(s.rest[end:], soft)
	if s.rest != "" && strings.IndexByte(s.ifs, s.rest[0]) >= 0 {
		s.rest = s.rest[1:]
	}
	return value
}

// whole gives all that is left.
func (s *splitter) whole() string {
	return strings.Trim(s.rest, s.soft())
}
