package yard

import (
	"strings"
)

// none stands for no bytes.
const none = "-"

const digits = "0123456789abcdef"

// isBare tells whether a byte stands for itself.
func isBare(b byte) bool {
	return b >= 0x21 && b <= 0x7e && b != '\\'
}

// writeBytes writes bytes as a word of a script.
func writeBytes(l []byte) string {
	if len(l) == 0 {
		return none
	}
	var s strings.Builder
	for _, b := range l {
		// A - alone would be read as no bytes.
		if isBare(b) && (b != none[0] || len(l) > 1) {
			s.WriteByte(b)
			continue
		}
		s.WriteString(`\x`)
		s.WriteByte(digits[b/16])
		s.WriteByte(digits[b%16])
	}
	return s.String()
}

// readBytes reads a word of a script as bytes; false, if it isn't as told.
func readBytes(s string) (string, bool) {
	if s == none {
		return "", true
	}
	var l []byte
	for s != "" {
		if isBare(s[0]) {
			l = append(l, s[0])
			s = s[1:]
			continue
		}
		b, ok := coded(s)
		if !ok {
			return "", false
		}
		l = append(l, b)
		s = s[len(`\x00`):]
	}
	return string(l), true
}

// coded reads a backslash, x, and two digits.
func coded(s string) (byte, bool) {
	if len(s) < len(`\x00`) || s[:2] != `\x` {
		return 0, false
	}
	high, low := strings.IndexByte(digits, s[2]), strings.IndexByte(digits, s[3])
	return byte(high*16 + low), high >= 0 && low >= 0
}
