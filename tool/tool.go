// Package tool is what all utilities have in common: saying, complaining,
// options, reading and writing files.
package tool

import (
	"iter"
	"slices"
	"strings"

	"shyard/api"
	"shyard/asker"
	"shyard/octet"
)

// NotKnown is the status of what no utility is named by.
const NotKnown = 127

// UsageStatus is the status of a utility whose arguments aren't as told.
const UsageStatus = 2

// Run is a utility that runs.
type Run struct {
	Name string
	Args []string // without the name
	said []byte
	*asker.Asker
}

// Program gives the program that args name; find gives a utility's work, which tells its status.
func Program(args []string, find func(name string) func(*Run) int) iter.Seq[*api.Ask] {
	args = slices.Clone(args)
	return func(yield func(*api.Ask) bool) {
		r := &Run{Asker: asker.New(yield)}
		status := NotKnown
		if len(args) > 0 {
			if work := find(args[0]); work != nil {
				r.Name, r.Args = args[0], args[1:]
				status = work(r)
			}
		}
		r.Flush()
		r.Ask(api.Call{No: api.SysExit, A: status})
	}
}

// Say has a text said behind what was said before. It is written at the latest
// ahead of anything else that can be seen.
func (r *Run) Say(s string) {
	r.said = append(r.said, s...)
}

// SayLine has a line said.
func (r *Run) SayLine(s string) {
	r.Say(s)
	r.Say("\n")
}

// Flush writes what was said; what can't be written is lost.
func (r *Run) Flush() {
	s := string(r.said)
	r.said = r.said[:0]
	r.Write(1, s)
}

// Tell complains: of what, in a line that begins with the utility's name.
func (r *Run) Tell(what string) {
	r.Flush()
	r.Write(2, r.Name+": "+what+"\n")
}

// Complain complains of something and an error.
func (r *Run) Complain(what string, err api.Errno) {
	r.Tell(what + ": " + octet.Decimal(int64(err)))
}

// Usage complains of the arguments, and gives the status of that.
func (r *Run) Usage() int {
	r.Tell("usage")
	return UsageStatus
}

// Read gives all bytes of a file, or, of - , of the input.
func (r *Run) Read(path string) (string, api.Errno) {
	if path == "-" {
		return r.ReadAll(0)
	}
	return r.ReadFile(path)
}

// WriteFile writes a text to a file, which is made if it isn't there; how is api.OpenCut or api.OpenAppend.
func (r *Run) WriteFile(path, text string, how, mode int) api.Errno {
	x := r.Ask(api.Call{No: api.SysOpen, S: path, A: api.OpenWrite | api.OpenCreate | how, B: mode})
	if x.Err != api.OK {
		return x.Err
	}
	err := r.Write(x.N, text)
	r.Close(x.N)
	return err
}

// File is Read; of what can't be read it complains.
func (r *Run) File(path string) (string, bool) {
	text, err := r.Read(path)
	if err != api.OK {
		r.Complain(path, err)
	}
	return text, err == api.OK
}

// Option is one of the options: its letter, and, if it has one, its value.
type Option struct {
	Letter byte
	Value  string
}

// Options parts the options (letters that stand alone, or with a value) from the
// operands; false, if there are others.
func (r *Run) Options(alone, valued string) ([]Option, []string, bool) {
	var l []Option
	args := r.Args
	for len(args) > 0 && args[0] != "-" && strings.HasPrefix(args[0], "-") {
		a := args[0]
		args = args[1:]
		switch {
		case a == "--":
			return l, args, true
		case len(a) == 2 && strings.IndexByte(alone, a[1]) >= 0:
			l = append(l, Option{Letter: a[1]})
		case len(a) == 2 && strings.IndexByte(valued, a[1]) >= 0 && len(args) > 0:
			l = append(l, Option{a[1], args[0]})
			args = args[1:]
		default:
			return nil, nil, false
		}
	}
	return l, args, true
}

// Given tells whether an option is among those.
func Given(l []Option, letter byte) bool {
	return slices.ContainsFunc(l, func(o Option) bool { return o.Letter == letter })
}
