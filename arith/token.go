package arith

import (
	"iter"

	"shyard/octet"
)

const (
	isEnd = iota
	isNumber
	isName
	isOperator
	isNone // no token begins there
)

type token struct {
	kind   int
	text   string
	number int64
}

// tokens gives the tokens of s, and at last an end, or the place where none begins.
func tokens(s string) iter.Seq[token] {
	return func(yield func(token) bool) {
		for at := 0; ; {
			for at < len(s) && isBlank(s[at]) {
				at++
			}
			t := tokenOf(s[at:])
			if !yield(t) || t.kind == isEnd || t.kind == isNone {
				return
			}
			at += len(t.text)
		}
	}
}

func tokenOf(s string) token {
	if s == "" {
		return token{kind: isEnd}
	}
	if '0' <= s[0] && s[0] <= '9' {
		if n, size := number(s); size > 0 {
			return token{kind: isNumber, text: s[:size], number: n}
		}
		return token{kind: isNone}
	}
	if size := nameSize(s); size > 0 {
		return token{kind: isName, text: s[:size]}
	}
	if size := operatorSize(s); size > 0 {
		return token{kind: isOperator, text: s[:size]}
	}
	return token{kind: isNone}
}

// number reads the number that s begins with, and how many bytes it has; 0, 0, if there is none.
func number(s string) (int64, int) {
	base, size := uint64(10), 0
	if len(s) > 2 && s[0] == '0' && (s[1] == 'x' || s[1] == 'X') && digit(s[2]) < 16 {
		base, size = 16, 2
	} else if s != "" && s[0] == '0' {
		base = 8
	}
	first := size
	n := uint64(0)
	for size < len(s) && digit(s[size]) < base {
		n = n*base + digit(s[size])
		size++
	}
	if size == first || size < len(s) && isPartOfName(s[size]) {
		return 0, 0
	}
	return int64(n), size
}

// digit gives what a digit of base 16 is worth; 16 of what is none.
func digit(b byte) uint64 {
	switch {
	case '0' <= b && b <= '9':
		return uint64(b - '0')
	case 'a' <= b && b <= 'f':
		return uint64(b-'a') + 10
	case 'A' <= b && b <= 'F':
		return uint64(b-'A') + 10
	}
	return 16
}

func nameSize(s string) int {
	size := 0
	for size < len(s) && isPartOfName(s[size]) {
		size++
	}
	if !octet.Name(s[:size]) {
		return 0
	}
	return size
}

func isPartOfName(b byte) bool {
	return octet.Name(string([]byte{'_', b}))
}

func isBlank(b byte) bool {
	return b == '\t' || b == '\n' || b == ' '
}

func operatorSize(s string) int {
	for size := min(3, len(s)); size > 0; size-- {
		if isOneOf(s[:size]) {
			return size
		}
	}
	return 0
}

func isOneOf(s string) bool {
	switch s {
	case "(", ")", "?", ":", "!", "~":
		return true
	}
	return isAssignment(s) || rank(s) > 0
}

func isAssignment(s string) bool {
	switch s {
	case "=", "*=", "/=", "%=", "+=", "-=", "<<=", ">>=", "&=", "^=", "|=":
		return true
	}
	return false
}

// rank gives how close an operator between two operands binds; 0 of what is none.
func rank(s string) int {
	switch s {
	case "||":
		return 3
	case "&&":
		return 4
	case "|":
		return 5
	case "^":
		return 6
	case "&":
		return 7
	case "==", "!=":
		return 8
	case "<", "<=", ">", ">=":
		return 9
	case "<<", ">>":
		return 10
	case "+", "-":
		return 11
	case "*", "/", "%":
		return 12
	}
	return 0
}
