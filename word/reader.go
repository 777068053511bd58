package word

import (
	"strings"

	"shyard/api"
	"shyard/lex"
	"shyard/octet"
)

// reader reads one text of one kind.
type reader struct {
	text  string
	kind  int
	depth int
	parts pile[api.Part]
	lit   run // what is taken as it is, up to where the reader is
}

func parts(s string, kind, depth int) ([]api.Part, api.Errno) {
	r := &reader{text: s, kind: kind, depth: depth}
	for i := 0; i < len(s); {
		next, err := r.step(i)
		if err != api.OK {
			return nil, err
		}
		i = next
	}
	r.closeLit()
	return r.parts.all(), api.OK
}

// step reads what stands at the place i, and gives the place behind it.
func (r *reader) step(i int) (int, api.Errno) {
	switch b := r.text[i]; {
	case b == '\\':
		return r.backslash(i), api.OK
	case b == '`':
		return 0, api.ErrBad
	case b == '\'' && r.kind == plain, b == '"' && r.kind == plain:
		return r.quotes(i)
	case b == '$':
		return r.dollar(i)
	case b == '~' && i == 0 && r.kind == plain && (len(r.text) == 1 || r.text[1] == '/'):
		r.part(api.Part{Kind: api.Tilde, Text: "~"})
	default:
		r.take(r.text[i:i+1], r.isQuoted())
	}
	return i + 1, api.OK
}

func (r *reader) isQuoted() bool {
	return r.kind != plain
}

// take adds a text that is taken as it is.
func (r *reader) take(text string, quoted bool) {
	if r.lit.open && r.lit.quoted != quoted {
		r.closeLit()
	}
	r.lit.open, r.lit.quoted = true, quoted
	r.lit.bytes = append(r.lit.bytes, text...)
}

func (r *reader) closeLit() {
	if r.lit.open {
		r.parts.push(api.Part{Kind: api.Lit, Text: string(r.lit.bytes), Quoted: r.lit.quoted})
	}
	r.lit = run{bytes: r.lit.bytes[:0]}
}

func (r *reader) part(p api.Part) {
	r.closeLit()
	r.parts.push(p)
}

func (r *reader) backslash(i int) int {
	if i+1 == len(r.text) {
		r.take("\\", true)
		return i + 1
	}
	behind := r.text[i+1]
	switch {
	case behind == '\n':
		return i + 2
	case r.kind == plain, behind == '$', behind == '`', behind == '\\', behind == '"' && r.kind == double:
		r.take(r.text[i+1:i+2], true)
		return i + 2
	}
	r.take("\\", true)
	return i + 1
}

func (r *reader) end(i int) (int, api.Errno) {
	next, _, err := lex.End(r.text, i, r.depth, r.isQuoted())
	return next, err
}

func (r *reader) quotes(i int) (int, api.Errno) {
	next, err := r.end(i)
	if err != api.OK {
		return 0, err
	}
	between := r.text[i+1 : next-1]
	if r.text[i] == '\'' {
		r.take(between, true)
		return next, api.OK
	}
	l, err := parts(between, double, r.depth+1)
	if err != api.OK {
		return 0, err
	}
	if len(l) == 0 {
		r.take("", true)
	}
	for _, p := range l {
		if p.Kind == api.Lit {
			r.take(p.Text, true)
		} else {
			r.part(p)
		}
	}
	return next, api.OK
}

func (r *reader) dollar(i int) (int, api.Errno) {
	behind := r.text[i+1:]
	if strings.HasPrefix(behind, "(") || strings.HasPrefix(behind, "{") {
		return r.substitution(i)
	}
	if n := bareSize(behind); n > 0 {
		r.part(api.Part{Kind: api.Param, Text: behind[:n], Quoted: r.isQuoted()})
		return i + 1 + n, api.OK
	}
	r.take("$", r.isQuoted())
	return i + 1, api.OK
}

func (r *reader) substitution(i int) (int, api.Errno) {
	next, err := r.end(i)
	if err != api.OK {
		return 0, err
	}
	p := api.Part{Kind: api.Command, Text: r.text[i+2 : next-1]}
	switch {
	case r.text[i+1] == '{':
		p, err = r.parameter(p.Text)
	case r.isExpression(p.Text):
		p.Kind = api.Arith
		p.Word, err = parts(p.Text[1:len(p.Text)-1], body, r.depth+1)
		p.Text = ""
	}
	if err != api.OK {
		return 0, err
	}
	p.Quoted = r.isQuoted()
	r.part(p)
	return next, api.OK
}

// isExpression tells whether the ( at the beginning is closed by the last byte:
// what stands between would then be a substitution of its own, if a $ stood ahead.
func (r *reader) isExpression(between string) bool {
	if !strings.HasPrefix(between, "(") {
		return false
	}
	next, _, err := lex.End("$"+between, 0, r.depth, r.isQuoted())
	return err == api.OK && next == len(between)+1
}

// parameter reads what stands between ${ and }.
func (r *reader) parameter(s string) (api.Part, api.Errno) {
	p := api.Part{Kind: api.Param}
	if n := parameterSize(s[min(1, len(s)):]); n > 0 && s[0] == '#' && 1+n == len(s) {
		p.Text, p.Op = s[1:], "len"
		return p, api.OK
	}
	n := parameterSize(s)
	if n == 0 {
		return api.Part{}, api.ErrBad
	}
	p.Text = s[:n]
	if n == len(s) {
		return p, api.OK
	}
	p.Op = operator(s[n:])
	if p.Op == "" {
		return api.Part{}, api.ErrBad
	}
	kind := r.kind
	if p.Op[0] == '%' || p.Op[0] == '#' {
		kind = plain
	}
	var err api.Errno
	p.Word, err = parts(s[n+len(p.Op):], kind, r.depth+1)
	return p, err
}

// operator gives the longest operator that s begins with.
func operator(s string) string {
	for n := min(2, len(s)); n > 0; n-- {
		switch s[:n] {
		case ":-", ":=", ":?", ":+", "-", "=", "?", "+", "%%", "%", "##", "#":
			return s[:n]
		}
	}
	return ""
}

// parameterSize gives how many bytes the parameter has that s begins with.
func parameterSize(s string) int {
	n := 0
	for n < len(s) && '0' <= s[n] && s[n] <= '9' {
		n++
	}
	if n > 0 {
		return n
	}
	return bareSize(s)
}

// bareSize is likewise, of a parameter without braces: of digits just one.
func bareSize(s string) int {
	if n := nameSize(s); n > 0 {
		return n
	}
	if s != "" && strings.IndexByte("0123456789@*#?$!", s[0]) >= 0 {
		return 1
	}
	return 0
}

func nameSize(s string) int {
	n := 0
	for n < len(s) && octet.Name("_"+s[n:n+1]) {
		n++
	}
	if !octet.Name(s[:n]) {
		return 0
	}
	return n
}
