// Package quiet runs a program over a kernel on which nothing else is asked, and
// tells what came of it. The tests of the utilities and of the shell use it.
package quiet

import (
	"iter"

	"shyard/api"
	"shyard/gate"
	"shyard/turn"
)

// Kernel is a kernel whose programs run one behind the other.
type Kernel struct {
	*gate.Kernel
	Turn *turn.Turn
}

// Told is what a program has said, what it has complained, and its status.
type Told struct {
	Out, Err string
	Status   int
}

// enough: calls that no program of a test needs.
const enough = 1 << 20

// New makes a kernel with files: a path and its bytes, or a path that ends with / .
func New(files ...api.Pair) Kernel {
	k := Kernel{Kernel: gate.New()}
	k.Turn = turn.New(k.Kernel)
	f := k.Files()
	for _, p := range files {
		if p.Path[len(p.Path)-1] == '/' {
			f.Mkdir(1, p.Path, 493)
			continue
		}
		ino, _ := f.Create(1, p.Path, 420)
		f.Write(ino, 0, p.Data)
	}
	return k
}

// Run runs a program to its end as a new process that has input to be read;
// ahead are calls that the process makes first.
func (k Kernel) Run(p iter.Seq[*api.Ask], input string, ahead ...api.Call) Told {
	x, _ := k.Call(1, api.Call{No: api.SysFork})
	pid := x.N
	fd, _ := k.Call(pid, api.Call{No: api.SysText, S: input})
	k.Call(pid, api.Call{No: api.SysDup2, A: fd.N})
	k.Call(pid, api.Call{No: api.SysClose, A: fd.N})
	for _, c := range ahead {
		k.Call(pid, c)
	}
	out, err := k.Output(1), k.Output(2)
	k.Turn.Start(pid, p)
	for n := 0; n < enough; {
		who, m := k.Turn.Pick(0, enough)
		if who == 0 {
			break
		}
		n += m
	}
	end, _ := k.Call(1, api.Call{No: api.SysWait, A: pid, B: 1})
	status := end.M
	if end.N != pid {
		status = -1
	}
	return Told{k.Output(1)[len(out):], k.Output(2)[len(err):], status}
}

// File gives a file's bytes; false, if there is none.
func (k Kernel) File(path string) (string, bool) {
	ino, err := k.Files().Walk(1, path)
	if err != api.OK {
		return "", false
	}
	s, err := k.Files().Read(ino, 0, api.MaxBytes)
	return s, err == api.OK
}
