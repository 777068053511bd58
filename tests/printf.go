package tests

import (
	"shyard/octet"
	"shyard/tool"
)

// writer writes a format, and takes the arguments one by one.
type writer struct {
	run    *tool.Run
	args   []string
	took   bool // this time
	status int
}

func printf(r *tool.Run) int {
	if len(r.Args) == 0 {
		return r.Usage()
	}
	w := &writer{run: r, args: r.Args[1:]}
	w.write(r.Args[0])
	for len(w.args) > 0 && w.took {
		w.write(r.Args[0])
	}
	return w.status
}

func (w *writer) write(format string) {
	w.took = false
	for i := 0; i < len(format); i++ {
		known := false
		if i+1 < len(format) {
			known = w.pair(format[i : i+2])
		}
		if known {
			i++
		} else {
			w.run.Say(format[i : i+1])
		}
	}
}

// pair writes what two bytes stand for; false, if they stand for nothing together.
func (w *writer) pair(s string) bool {
	switch s {
	case `\n`:
		w.run.Say("\n")
	case `\t`:
		w.run.Say("\t")
	case `\\`:
		w.run.Say(`\`)
	case "%%":
		w.run.Say("%")
	case "%s":
		a, _ := w.next()
		w.run.Say(a)
	case "%d":
		w.run.Say(octet.Decimal(w.number()))
	default:
		return false
	}
	return true
}

func (w *writer) next() (string, bool) {
	if len(w.args) == 0 {
		return "", false
	}
	a := w.args[0]
	w.args = w.args[1:]
	w.took = true
	return a, true
}

func (w *writer) number() int64 {
	a, there := w.next()
	if !there {
		return 0
	}
	n, ok := octet.Number(a)
	if !ok {
		w.run.Tell(a + ": number")
		w.status = 1
	}
	return n
}
