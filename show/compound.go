package show

import (
	"shyard/api"
)

// compound writes a compound command with its redirections.
func (w *writer) compound(n api.Node) {
	switch n.Kind {
	case api.Sub:
		w.line("(")
		w.body(n, 0)
		w.put(")")
	case api.Group:
		w.line("{")
		w.body(n, 0)
		w.put("}")
	case api.If:
		w.choice(n)
	case api.While:
		w.line("while")
		w.loop(n)
	case api.Until:
		w.line("until")
		w.loop(n)
	case api.For:
		w.forEach(n)
	case api.Case:
		w.cases(n)
	}
	for _, r := range n.Redirs {
		w.put(" ")
		w.redirection(r)
	}
}

func (w *writer) choice(n api.Node) {
	ahead := "if"
	i := 0
	for ; i+1 < len(n.Kids); i += 2 {
		w.line(ahead)
		w.body(n, i)
		w.line("then")
		w.body(n, i+1)
		ahead = "elif"
	}
	if i < len(n.Kids) {
		w.line("else")
		w.body(n, i)
	}
	w.put("fi")
}

func (w *writer) loop(n api.Node) {
	w.body(n, 0)
	w.line("do")
	w.body(n, 1)
	w.put("done")
}

func (w *writer) forEach(n api.Node) {
	w.put("for " + n.Name)
	if n.In {
		w.put(" in")
		for _, word := range n.Words {
			w.put(" " + word)
		}
	}
	w.newline()
	w.line("do")
	w.body(n, 0)
	w.put("done")
}

func (w *writer) cases(n api.Node) {
	w.line("case " + n.Name + " in")
	item, ahead := 0, "("
	for _, word := range n.Words {
		if word != ")" {
			w.put(ahead + word)
			ahead = "|"
			continue
		}
		w.line(")")
		w.body(n, item)
		w.line(";;")
		item++
		ahead = "("
	}
	w.put("esac")
}
