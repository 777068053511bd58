package eval

import (
	"iter"

	"shyard/api"
	"shyard/parse"
)

// command is a complete command of a text, or an error.
type command struct {
	tree api.Node
	last bool // no other one, and no error, stands behind it
	err  api.Errno
}

// commands gives a text's commands, each when it is known whether it is the last one.
func commands(s string) iter.Seq[command] {
	return func(yield func(command) bool) {
		var held []command
		for tree, err := range parse.Commands(s) {
			for _, c := range held {
				if !yield(c) {
					return
				}
			}
			held = []command{{tree: tree, err: err}}
		}
		for _, c := range held {
			c.last = c.err == api.OK
			yield(c)
		}
	}
}
