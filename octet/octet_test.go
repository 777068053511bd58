package octet_test

import (
	"math"
	"math/rand"
	"slices"
	"strings"
	"testing"

	"shyard/octet"
)

// P1.1: Decimal and Number.
func TestDecimal(t *testing.T) {
	for n, want := range map[int64]string{
		0: "0", 7: "7", -7: "-7", 10: "10",
		math.MaxInt64: "9223372036854775807", math.MinInt64: "-9223372036854775808",
	} {
		if got := octet.Decimal(n); got != want {
			t.Errorf("Decimal(%d) = %q", n, got)
		}
	}
}

func TestNumber(t *testing.T) {
	for s, want := range map[string]int64{
		"0": 0, "+007": 7, "-0": 0, "+0": 0, "-12": -12, "000000000000000000000000000001": 1,
		"9223372036854775807": math.MaxInt64, "-9223372036854775808": math.MinInt64,
		"-00009223372036854775808": math.MinInt64,
	} {
		if n, ok := octet.Number(s); n != want || !ok {
			t.Errorf("Number(%q) = %d %v", s, n, ok)
		}
	}
	for _, s := range []string{
		"", "-", "+", " 1", "1 ", "1a", "0x1", "1_0", "+-1", "--1", "1.0", "1\n", "٣",
		"9223372036854775808", "-9223372036854775809", "99999999999999999999999",
	} {
		if n, ok := octet.Number(s); n != 0 || ok {
			t.Errorf("Number(%q) = %d %v", s, n, ok)
		}
	}
}

// P1.1: Octal and FromOctal.
func TestOctal(t *testing.T) {
	for n, want := range map[int]string{
		0: "0", 8: "10", 420: "644", 511: "777", -1: "", math.MinInt: "", math.MaxInt: "777777777777777777777",
	} {
		if got := octet.Octal(n); got != want {
			t.Errorf("Octal(%d) = %q", n, got)
		}
	}
	for s, want := range map[string]int{"0": 0, "000000": 0, "644": 420, "777777": 262143} {
		if n, ok := octet.FromOctal(s); n != want || !ok {
			t.Errorf("FromOctal(%q) = %d %v", s, n, ok)
		}
	}
	for _, s := range []string{"", "8", "78", "-1", "+1", "0000000", "1000000", " 7", "7a"} {
		if n, ok := octet.FromOctal(s); n != 0 || ok {
			t.Errorf("FromOctal(%q) = %d %v", s, n, ok)
		}
	}
}

// P1.1: Name.
func TestName(t *testing.T) {
	for _, s := range []string{"a", "Z", "_", "_a1", "aZ_9", "__"} {
		if !octet.Name(s) {
			t.Errorf("%q is a name", s)
		}
	}
	for _, s := range []string{"", "1", "1a", "a-b", "a b", "é", "a\x00", "@", "[", "`", "{", "a/"} {
		if octet.Name(s) {
			t.Errorf("%q is no name", s)
		}
	}
}

// P1.1: Quote.
func TestQuote(t *testing.T) {
	const safe = "azAZ09_-./:=+,@%"
	for s, want := range map[string]string{
		safe: safe, "a b": "'a b'", "": "''", "it's": `'it'\''s'`, "'": `''\'''`, "\xe9": "'\xe9'",
		"a\n": "'a\n'", "~": "'~'", "\\": `'\'`, "\x00": "'\x00'",
	} {
		if got := octet.Quote(s); got != want {
			t.Errorf("Quote(%q) = %q", s, got)
		}
	}
	for b := range 256 {
		s := string([]byte{byte(b)})
		if bare := octet.Quote(s) == s; bare != strings.Contains(safe+letters(), s) {
			t.Errorf("byte %d: bare %v", b, bare)
		}
	}
}

func letters() string {
	var l []byte
	for i := range 26 {
		l = append(l, byte('a'+i), byte('A'+i), byte('0'+i%10))
	}
	return string(l)
}

// P1.1: Lines; it may be stopped, and gone through again.
func TestLines(t *testing.T) {
	for s, want := range map[string][]string{
		"": nil, "\n": {"\n"}, "a": {"a"}, "a\n": {"a\n"}, "a\n\nb": {"a\n", "\n", "b"},
		"\r\n\x00": {"\r\n", "\x00"},
	} {
		if l := slices.Collect(octet.Lines(s)); !slices.Equal(l, want) {
			t.Errorf("Lines(%q) = %q", s, l)
		}
	}
	seq := octet.Lines("a\nb\nc")
	for range 2 {
		for line := range seq {
			if line != "a\n" {
				t.Error(line)
			}
			break
		}
	}
	if l := slices.Collect(seq); len(l) != 3 {
		t.Error(l)
	}
}

// P1.2: what is written is read.
func TestNumbersComeBack(t *testing.T) {
	r := rand.New(rand.NewSource(1))
	for range 2000 {
		n := int64(r.Uint64()) >> r.Intn(64)
		if m, ok := octet.Number(octet.Decimal(n)); m != n || !ok {
			t.Fatal(n, m, ok)
		}
	}
	for n := range 8 * 8 * 8 * 8 * 8 * 8 {
		if m, ok := octet.FromOctal(octet.Octal(n)); m != n || !ok {
			t.Fatal(n, m, ok)
		}
	}
}

// P1.3: the lines joined are the text.
func TestLinesJoined(t *testing.T) {
	r := rand.New(rand.NewSource(2))
	for range 2000 {
		b := make([]byte, r.Intn(20))
		for i := range b {
			b[i] = "\n\nab\x00\xff"[r.Intn(6)]
		}
		s := string(b)
		l := slices.Collect(octet.Lines(s))
		if strings.Join(l, "") != s {
			t.Fatalf("%q %q", s, l)
		}
		for i, line := range l {
			if line == "" || strings.Contains(line[:len(line)-1], "\n") || i < len(l)-1 && line[len(line)-1] != '\n' {
				t.Fatalf("%q %q", s, l)
			}
		}
	}
}
