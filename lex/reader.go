package lex

import (
	"strings"

	"shyard/api"
)

// reader goes over one line of a text.
type reader struct {
	text       string
	at         int
	tokens     []api.Token
	delimiters []delimiter
}

// delimiter is what ends a here-document, and which token it is.
type delimiter struct {
	token int
	tabs  bool // bytes 9 at a line's beginning are let go
}

// line reads the tokens up to the next byte 10; with an error, its place and it.
func (r *reader) line() (int, api.Errno) {
scan:
	for r.at < len(r.text) {
		switch b := r.text[r.at]; {
		case b == ' ' || b == '\t':
			r.at++
			continue scan
		case strings.HasPrefix(r.text[r.at:], "\\\n"):
			r.at += 2
			continue scan
		case b == '#':
			r.remark()
			continue scan
		case b == '\n':
			r.token(api.Newline, 1)
			break scan
		}
		if n := operator(r.text[r.at:]); n > 0 {
			r.token(api.Op, n)
			continue scan
		}
		if place, err := r.word(); err != api.OK {
			return place, err
		}
	}
	return 0, api.OK
}

func (r *reader) token(kind, size int) {
	r.tokens = append(r.tokens, api.Token{Kind: kind, Text: r.text[r.at : r.at+size], At: r.at})
	r.at += size
}

func (r *reader) remark() {
	n := strings.IndexByte(r.text[r.at:], '\n')
	if n < 0 {
		n = len(r.text) - r.at
	}
	r.at += n
}

func (r *reader) word() (int, api.Errno) {
	end := r.at
	for end < len(r.text) && !endsWord(r.text[end]) {
		next, place, err := pass(r.text, end, 0, false)
		if err != api.OK {
			return place, err
		}
		end = next
	}
	if end-r.at > api.MaxWord {
		return r.at, api.ErrWord
	}
	if isDigits(r.text[r.at:end]) && end < len(r.text) && (r.text[end] == '<' || r.text[end] == '>') {
		r.token(api.Number, end-r.at)
		return 0, api.OK
	}
	if op := r.last(); op == "<<" || op == "<<-" {
		r.delimiters = append(r.delimiters, delimiter{len(r.tokens), op == "<<-"})
	}
	r.token(api.Word, end-r.at)
	return 0, api.OK
}

// last gives the operator right ahead.
func (r *reader) last() string {
	if n := len(r.tokens); n > 0 && r.tokens[n-1].Kind == api.Op {
		return r.tokens[n-1].Text
	}
	return ""
}

// documents reads the here-documents behind the line.
func (r *reader) documents() (int, api.Errno) {
	for _, d := range r.delimiters {
		t := &r.tokens[d.token]
		ender, raw := unquoted(t.Text)
		doc, ended := r.document(ender, d.tabs)
		if !ended {
			return t.At, api.ErrDoc
		}
		t.Doc, t.Raw = doc, raw
	}
	return 0, api.OK
}

func (r *reader) document(ender string, tabs bool) (string, bool) {
	var doc strings.Builder
	for r.at < len(r.text) {
		line, _, whole := strings.Cut(r.text[r.at:], "\n")
		r.at += len(line)
		if tabs {
			line = strings.TrimLeft(line, "\t")
		}
		if whole {
			r.at++
		}
		if line == ender {
			return doc.String(), true
		}
		doc.WriteString(line)
		doc.WriteByte('\n')
	}
	return "", false
}

// unquoted gives a delimiter's text without its quoting, and whether it had any.
func unquoted(s string) (string, bool) {
	var text strings.Builder
	raw := false
	for i := 0; i < len(s); i++ {
		switch s[i] {
		case '\\':
			raw = true
			i++
			if i < len(s) {
				text.WriteByte(s[i])
			}
		case '\'', '"':
			raw = true
		default:
			text.WriteByte(s[i])
		}
	}
	return text.String(), raw
}

// operator gives how many bytes the operator has that s begins with; 0, if it begins with none.
func operator(s string) int {
	for n := min(3, len(s)); n > 0; n-- {
		switch s[:n] {
		case "&&", "||", ";;", "<<", "<<-", ">>", "<&", ">&", "<>", ">|", "&", ";", "|", "<", ">", "(", ")":
			return n
		}
	}
	return 0
}

func endsWord(b byte) bool {
	switch b {
	case ' ', '\t', '\n', '&', ';', '|', '<', '>', '(', ')':
		return true
	}
	return false
}

func isDigits(s string) bool {
	for i := range len(s) {
		if s[i] < '0' || s[i] > '9' {
			return false
		}
	}
	return s != ""
}
