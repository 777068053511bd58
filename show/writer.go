package show

import (
	"strings"

	"shyard/api"
	"shyard/octet"
)

// mostNodes: a text of MaxText bytes can't hold more nodes than this.
const mostNodes = 4 * api.MaxText

// pile keeps things in the order in which they came, till they are taken all at once.
type pile[T any] struct {
	items []T
}

func (p *pile[T]) push(x T) {
	p.items = append(p.items, x)
}

func (p *pile[T]) takeAll() []T {
	l := p.items
	p.items = nil
	return l
}

// document is a here-document that waits for the next line.
type document struct {
	text, delimiter string
}

type writer struct {
	text    strings.Builder
	waiting pile[document]
	nodes   int
	full    bool // the text would be too long
}

// put writes what is no byte 10 of the form.
func (w *writer) put(s string) {
	if w.full = w.full || w.text.Len()+len(s) > api.MaxText; !w.full {
		w.text.WriteString(s)
	}
}

// newline ends a line; behind it come the here-documents that were waiting for it.
func (w *writer) newline() {
	w.put("\n")
	for _, d := range w.waiting.takeAll() {
		w.put(d.text)
		w.put(d.delimiter)
		w.put("\n")
	}
}

func (w *writer) line(s string) {
	w.put(s)
	w.newline()
}

func (w *writer) tree(n api.Node) {
	if w.nodes++; w.full || w.nodes > mostNodes {
		w.full = true
		return
	}
	switch n.Kind {
	case api.Simple:
		w.simple(n)
	case api.Pipe:
		if n.Not {
			w.put("! ")
		}
		w.joined(n.Kids, " |")
	case api.And:
		w.joined(n.Kids, " &&")
	case api.Or:
		w.joined(n.Kids, " ||")
	case api.Async:
		w.kid(n, 0)
		w.put(" &")
	case api.List:
		w.list(n)
	case api.Function:
		w.put(n.Name + "() ")
		w.kid(n, 0)
	default:
		w.compound(n)
	}
}

// kid writes a kid, if there is one: trees made by hand may lack some.
func (w *writer) kid(n api.Node, i int) {
	if i < len(n.Kids) {
		w.tree(n.Kids[i])
	}
}

func (w *writer) joined(kids []api.Node, between string) {
	for i, k := range kids {
		if i > 0 {
			w.line(between)
		}
		w.tree(k)
	}
}

func (w *writer) simple(n api.Node) {
	for i, word := range n.Words {
		if i > 0 {
			w.put(" ")
		}
		w.put(word)
	}
	for i, r := range n.Redirs {
		if i > 0 || len(n.Words) > 0 {
			w.put(" ")
		}
		w.redirection(r)
	}
}

// list writes a whole tree that is a List, on one line.
func (w *writer) list(n api.Node) {
	for i, k := range n.Kids {
		switch {
		case i > 0 && n.Kids[i-1].Kind == api.Async:
			w.put(" ")
		case i > 0:
			w.put("; ")
		}
		w.tree(k)
	}
}

// body writes the lines of a body.
func (w *writer) body(n api.Node, i int) {
	if i >= len(n.Kids) {
		return
	}
	l := n.Kids[i : i+1]
	if l[0].Kind == api.List {
		l = l[0].Kids
	}
	for _, k := range l {
		w.tree(k)
		w.newline()
	}
}

func (w *writer) redirection(r api.Redir) {
	if r.Fd != -1 {
		w.put(octet.Decimal(int64(r.Fd)))
	}
	w.put(r.Op)
	if r.Op != "<<" {
		w.put(r.Word)
		return
	}
	d := document{r.Doc, delimiter(r.Doc)}
	w.waiting.push(d)
	if r.Raw {
		w.put("'" + d.delimiter + "'")
	} else {
		w.put(d.delimiter)
	}
}

// delimiter gives E, or the first of E1, E2 .. that is no line of the document.
func delimiter(doc string) string {
	lines := map[string]int{}
	for line := range octet.Lines(doc) {
		lines[strings.TrimSuffix(line, "\n")]++
	}
	d := "E"
	for i := int64(1); lines[d] > 0; i++ {
		d = "E" + octet.Decimal(i)
	}
	return d
}
