// Package asker is how programs ask the kernel.
package asker

import (
	"strings"

	"shyard/api"
)

// Asker asks as long as somebody takes what is asked.
type Asker struct {
	yield func(*api.Ask) bool
	gone  bool
	calls int
}

// New makes an asker of what a program's sequence hands its asks to.
func New(yield func(*api.Ask) bool) *Asker {
	return &Asker{yield: yield}
}

// Gone tells whether nobody takes what is asked any more.
func (a *Asker) Gone() bool {
	return a.gone
}

// Calls tells how many asks there were.
func (a *Asker) Calls() int {
	return a.calls
}

// Pass hands an ask on. When nobody takes it any more, it is refused, so that
// the program comes to its end.
func (a *Asker) Pass(x *api.Ask) bool {
	a.calls++
	if a.gone || !a.yield(x) {
		a.gone = true
		x.Result = api.Result{Err: api.EIO}
	}
	return !a.gone
}

// Ask asks a call, and gives its answer.
func (a *Asker) Ask(c api.Call) api.Result {
	x := &api.Ask{Call: c}
	a.Pass(x)
	return x.Result
}

// Close closes a descriptor.
func (a *Asker) Close(fd int) {
	a.Ask(api.Call{No: api.SysClose, A: fd})
}

// Write writes all of a text to a descriptor, if it can.
func (a *Asker) Write(fd int, s string) api.Errno {
	for s != "" {
		x := a.Ask(api.Call{No: api.SysWrite, A: fd, S: s})
		if x.Err != api.OK {
			return x.Err
		}
		s = s[min(max(x.N, 0), len(s)):]
	}
	return api.OK
}

// ReadAll reads a descriptor up to its end.
func (a *Asker) ReadAll(fd int) (string, api.Errno) {
	var text strings.Builder
	for {
		x := a.Ask(api.Call{No: api.SysRead, A: fd, B: api.MaxBytes})
		if x.Err != api.OK {
			return "", x.Err
		}
		if x.S == "" {
			return text.String(), api.OK
		}
		text.WriteString(x.S)
	}
}

// ReadFile reads all of the file at a path.
func (a *Asker) ReadFile(path string) (string, api.Errno) {
	x := a.Ask(api.Call{No: api.SysOpen, S: path, A: api.OpenRead})
	if x.Err != api.OK {
		return "", x.Err
	}
	text, err := a.ReadAll(x.N)
	a.Close(x.N)
	return text, err
}
