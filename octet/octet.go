// Package octet writes numbers as texts and reads them back, and quotes texts
// so that the shell reads them as they are.
package octet

import (
	"iter"
	"strconv"
	"strings"
)

// Decimal writes n in base 10.
func Decimal(n int64) string {
	return strconv.FormatInt(n, 10)
}

// Number reads a number of base 10 with perhaps a sign; false, if s writes none.
func Number(s string) (int64, bool) {
	n, err := strconv.ParseInt(s, 10, 64)
	if err != nil {
		return 0, false
	}
	return n, true
}

// Octal writes n in base 8; nothing of a number below 0.
func Octal(n int) string {
	if n < 0 {
		return ""
	}
	return strconv.FormatInt(int64(n), 8)
}

// FromOctal reads a number of 1 to 6 digits of base 8.
func FromOctal(s string) (int, bool) {
	if len(s) < 1 || len(s) > 6 {
		return 0, false
	}
	n := 0
	for i := range len(s) {
		if s[i] < '0' || s[i] > '7' {
			return 0, false
		}
		n = n*8 + int(s[i]-'0')
	}
	return n, true
}

// Name tells whether s is a name.
func Name(s string) bool {
	for i := range len(s) {
		if !isLetter(s[i]) && s[i] != '_' && (i == 0 || !isDigit(s[i])) {
			return false
		}
	}
	return s != ""
}

// Quote writes s so that the shell reads it as it is.
func Quote(s string) string {
	if isSafe(s) {
		return s
	}
	return "'" + strings.ReplaceAll(s, "'", `'\''`) + "'"
}

// Lines gives the lines of s, each with the byte 10 that ends it.
func Lines(s string) iter.Seq[string] {
	return func(yield func(string) bool) {
		for at := 0; at < len(s); {
			end := len(s)
			if i := strings.IndexByte(s[at:], '\n'); i >= 0 {
				end = at + i + 1
			}
			if !yield(s[at:end]) {
				return
			}
			at = end
		}
	}
}

func isSafe(s string) bool {
	for i := range len(s) {
		if !isLetter(s[i]) && !isDigit(s[i]) && strings.IndexByte("_-./:=+,@%", s[i]) < 0 {
			return false
		}
	}
	return s != ""
}

func isLetter(b byte) bool {
	return 'A' <= b && b <= 'Z' || 'a' <= b && b <= 'z'
}

func isDigit(b byte) bool {
	return '0' <= b && b <= '9'
}
