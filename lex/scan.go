package lex

import (
	"strings"

	"shyard/api"
)

// pass gives the place behind what stands at the place i: quoting or a
// substitution as a whole, a backslash with the byte that it takes, or one byte.
// With an error the place is 0, and the second place is the error's.
func pass(s string, i, depth int, quoted bool) (int, int, api.Errno) {
	switch s[i] {
	case '\\':
		return min(i+2, len(s)), 0, api.OK
	case '`':
		return 0, i, api.ErrBad
	}
	if !begins(s, i, quoted) {
		return i + 1, 0, api.OK
	}
	return whole(s, i, depth, quoted)
}

// begins tells whether quoting that has an end, or a substitution, begins at the place i.
func begins(s string, i int, quoted bool) bool {
	switch s[i] {
	case '\'':
		return !quoted
	case '"':
		return true
	case '$':
		return i+1 < len(s) && (s[i+1] == '(' || s[i+1] == '{')
	}
	return false
}

// whole gives the place behind the quoting or the substitution that begins at the place at.
func whole(s string, at, depth int, quoted bool) (int, int, api.Errno) {
	if s[at] == '\'' {
		if n := strings.IndexByte(s[at+1:], '\''); n >= 0 {
			return at + 1 + n + 1, 0, api.OK
		}
		return 0, at, api.ErrQuote
	}
	if depth >= api.MaxNest {
		return 0, at, api.ErrNest
	}
	switch {
	case s[at] == '"':
		return double(s, at, depth+1)
	case s[at+1] == '(':
		return command(s, at, depth+1)
	}
	return parameter(s, at, depth+1, quoted)
}

func double(s string, at, depth int) (int, int, api.Errno) {
	for i := at + 1; i < len(s); {
		if s[i] == '"' {
			return i + 1, 0, api.OK
		}
		next, place, err := pass(s, i, depth, true)
		if err != api.OK {
			return 0, place, err
		}
		i = next
	}
	return 0, at, api.ErrQuote
}

func command(s string, at, depth int) (int, int, api.Errno) {
	open := 0
scan:
	for i := at + 1; i < len(s); {
		switch s[i] {
		case '(':
			open++
			i++
			continue scan
		case ')':
			open--
			i++
			if open == 0 {
				return i, 0, api.OK
			}
			continue scan
		}
		next, place, err := pass(s, i, depth, false)
		if err != api.OK {
			return 0, place, err
		}
		i = next
	}
	return 0, at, api.ErrQuote
}

func parameter(s string, at, depth int, quoted bool) (int, int, api.Errno) {
	for i := at + 2; i < len(s); {
		if s[i] == '}' {
			return i + 1, 0, api.OK
		}
		next, place, err := pass(s, i, depth, quoted)
		if err != api.OK {
			return 0, place, err
		}
		i = next
	}
	return 0, at, api.ErrQuote
}
