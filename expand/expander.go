package expand

import (
	"strings"

	"shyard/api"
	"shyard/arith"
	"shyard/octet"
	"shyard/pattern"
)

// expander puts parts as pieces; the first error ends all.
type expander struct {
	host    Host
	message string // of ErrUnset
	err     api.Errno
}

func (e *expander) fail(err api.Errno, message string) []item {
	e.err, e.message = err, message
	return nil
}

// parts puts parts one by one; within: they are a Word that stands for a parameter.
func (e *expander) parts(l []api.Part, within bool) []item {
	var items []item
	for _, p := range l {
		items = append(items, e.part(p, within)...)
		if e.err != api.OK {
			return nil
		}
	}
	return items
}

func (e *expander) part(p api.Part, within bool) []item {
	switch p.Kind {
	case api.Tilde:
		if home, set := e.host.Param("HOME"); set {
			return one(api.Piece{Text: home, Quoted: true})
		}
	case api.Param:
		return e.param(p)
	case api.Arith:
		return e.arith(p)
	case api.Command:
		text, err := e.host.Command(p.Text)
		if err != api.OK {
			return e.fail(err, "")
		}
		return value(p, strings.TrimRight(text, "\n"))
	}
	return one(api.Piece{Text: p.Text, Quoted: p.Quoted, Split: within && !p.Quoted})
}

func one(p api.Piece) []item {
	return []item{{piece: p}}
}

// value is the piece of what a part is worth.
func value(p api.Part, text string) []item {
	return one(api.Piece{Text: text, Quoted: p.Quoted, Split: true})
}

func (e *expander) arith(p api.Part) []item {
	text, ok := e.text(p.Word)
	if !ok {
		return nil
	}
	n, sets, err := arith.Eval(text, e.host.Vars())
	if err != api.OK {
		return e.fail(err, "")
	}
	for _, s := range sets {
		if err := e.host.Set(s.Name, octet.Decimal(s.Value)); err != api.OK {
			return e.fail(err, "")
		}
	}
	return value(p, octet.Decimal(n))
}

// text gives a Word's text; false, if there was an error.
func (e *expander) text(l []api.Part) (string, bool) {
	items := e.parts(l, true)
	return textOf(items), e.err == api.OK
}

func isArgs(name string) bool {
	return name == "@" || name == "*"
}

// param puts a parameter, with what is done to it.
func (e *expander) param(p api.Part) []item {
	if p.Op == "" && isArgs(p.Text) {
		return e.args(p)
	}
	text, set := e.valueOf(p.Text)
	switch p.Op {
	case "":
		return value(p, text)
	case "len":
		n := len(text)
		if isArgs(p.Text) {
			n = len(e.host.Args())
		}
		return value(p, octet.Decimal(int64(n)))
	case "%", "%%", "#", "##":
		return e.cut(p, text)
	}
	if strings.HasPrefix(p.Op, ":") {
		set = set && text != ""
	}
	return e.choose(p, text, set)
}

// valueOf gives a parameter's value as one text, and whether it is set.
func (e *expander) valueOf(name string) (string, bool) {
	if isArgs(name) {
		args := e.host.Args()
		return strings.Join(args, " "), len(args) > 0
	}
	text, set := e.host.Param(name)
	if !set {
		text = ""
	}
	return text, set
}

// args puts the positional parameters.
func (e *expander) args(p api.Part) []item {
	args := e.host.Args()
	if p.Text == "*" && p.Quoted {
		return value(p, strings.Join(args, e.joint()))
	}
	var items []item
	for i, a := range args {
		if i > 0 {
			items = append(items, item{isBreak: true})
		}
		items = append(items, value(p, a)...)
	}
	return items
}

// joint is what stands between two of the parameters where they are one text.
func (e *expander) joint() string {
	ifs, set := e.host.Param("IFS")
	if !set {
		return " "
	}
	return ifs[:min(1, len(ifs))]
}

// choose puts a value, or its Word, as the Op and whether it is set tell.
func (e *expander) choose(p api.Part, text string, set bool) []item {
	op := p.Op[len(p.Op)-1]
	switch {
	case op == '+' && !set:
		return value(p, "")
	case op == '+' || op == '-' && !set:
		items := e.parts(p.Word, true)
		if len(items) == 0 && e.err == api.OK {
			return value(p, "")
		}
		return items
	case set:
		return value(p, text)
	}
	text, ok := e.text(p.Word)
	if !ok {
		return nil
	}
	if op == '?' {
		return e.fail(api.ErrUnset, text)
	}
	if !octet.Name(p.Text) {
		return e.fail(api.EINVAL, "")
	}
	if err := e.host.Set(p.Text, text); err != api.OK {
		return e.fail(err, "")
	}
	return value(p, text)
}

// cut puts a value without what its Word's pattern matches.
func (e *expander) cut(p api.Part, text string) []item {
	if len(text) > api.MaxField {
		return e.fail(api.ErrFields, "")
	}
	items := e.parts(p.Word, true)
	if e.err != api.OK {
		return nil
	}
	return value(p, pattern.Cut(patternOf(items), text, p.Op[0] == '%', len(p.Op) == 2))
}
