package pattern_test

import (
	"math/rand"
	"slices"
	"strings"
	"testing"

	"shyard/api"
	"shyard/pattern"
)

// P2.1: Match, ordinary patterns and the edges of brackets.
func TestMatch(t *testing.T) {
	for _, c := range []struct {
		p, s string
		want bool
	}{
		{"a*b", "axxb", true}, {"[a-c]?", "bz", true}, {"[!a]", "a", false}, {"[!a]", "b", true},
		{`\*`, "*", true}, {`\*`, "x", false}, {"[]a]", "]", true}, {"[a", "[a", true}, {"[a", "a", false},
		{"", "", true}, {"", "a", false}, {"*", "", true}, {"?", "", false}, {"**", "abc", true},
		{"a*b*c", "aXbYbZc", true}, {"a*b*c", "aXbYbZ", false}, {"*ab", "aab", true}, {"*a?", "aab", true},
		{"[!]a]", "]", false}, {"[!]a]", "b", true}, {"[!]", "[!]", true}, {"[]", "[]", true}, {"[!", "[!", true},
		{"[", "[", true}, {"[]-a]", "^", true}, {"[]-a]", "-", false}, {"[a-]", "-", true}, {"[a-]", "a", true},
		{"[-a]", "-", true}, {"[c-a]", "b", false}, {"[c-a]", "c", false}, {"[c-a]", "", false}, {"x[c-a]", "x", false},
		{"[!c-a]", "b", true}, {"[a-c-e]", "d", false}, {"[a-c-e]", "-", true}, {"[a-c-e]", "e", true},
		{`[\]]`, "]", true}, {`[\!a]`, "!", true}, {`[a\-c]`, "b", false}, {`[a\-c]`, "-", true}, {`[a-\]]`, "]", false},
		{`[A-\]]`, "B", true}, {`[a\]`, "[a]", true}, {"[*]", "*", true}, {"[*]", "a", false}, {"[?]x", "ax", false},
		{"[[]", "[", true}, {"a]", "a]", true}, {"[a]]", "a]", true}, {"[/-9]", "0", true}, {"[][:alpha:", "[][:alpha:", true}, {"[][:alpha:", "]", false}, {"][", "][", true}, {"]", "]", true},
		{"?", "\xff", true}, {"[\x80-\xff]", "\xe9", true}, {"[!a]", "\x00", true}, {"??", "é", true},
	} {
		if got := pattern.Match(pattern.Of(c.p), c.s); got != c.want {
			t.Errorf("Match(%q, %q) = %v", c.p, c.s, got)
		}
	}
}

// P2.1: the six classes, and what is none.
func TestClasses(t *testing.T) {
	in := map[string]func(b byte) bool{
		"alpha": func(b byte) bool { return b >= 'a' && b <= 'z' || b >= 'A' && b <= 'Z' },
		"digit": func(b byte) bool { return b >= '0' && b <= '9' },
		"alnum": func(b byte) bool { return b >= 'a' && b <= 'z' || b >= 'A' && b <= 'Z' || b >= '0' && b <= '9' },
		"upper": func(b byte) bool { return b >= 'A' && b <= 'Z' },
		"lower": func(b byte) bool { return b >= 'a' && b <= 'z' },
		"space": func(b byte) bool { return b >= 9 && b <= 13 || b == 32 },
	}
	for name, has := range in {
		for b := range 256 {
			s := string([]byte{byte(b)})
			if pattern.Match(pattern.Of("[[:"+name+":]]"), s) != has(byte(b)) {
				t.Errorf("%s: %d", name, b)
			}
			if pattern.Match(pattern.Of("[!_[:"+name+":]]"), s) == (has(byte(b)) || b == '_') {
				t.Errorf("not %s: %d", name, b)
			}
		}
	}
	for _, c := range []struct {
		p, s string
		want bool
	}{
		{"[[:foo:]]", "f]", true}, {"[[:foo:]]", "[]", true}, {"[[:foo:]]", "f", false}, {"[[:digits:]]", "s]", true},
		{"[[:alpha]", "a", true}, {"[[:alpha]", "z", false}, {"[[:alpha:]", "[:alpha:]", false}, {"[[:alpha:]", "[l", true},
		{`[\[:alpha:]]`, "b", false}, {`[[:al\pha:]]`, "z", false}, {`[[\:alpha:]]`, ":]", true}, {`[[:alpha\:]]`, "z", false},
		{"[[:digit:]-z]", "-", true}, {"[[:digit:]-z]", "a", false}, {"[a-[:digit:]]", "5", false}, {"[[:digit:]x]", "x", true},
		{"[[::]]", ":]", true}, {"[[:", "[[:", true}, {"[[:a", "[[:a", true}, {"[[:alpha:", "[[:alpha:", true},
	} {
		if got := pattern.Match(pattern.Of(c.p), c.s); got != c.want {
			t.Errorf("Match(%q, %q) = %v", c.p, c.s, got)
		}
	}
}

// P2.1: Cut.
func TestCut(t *testing.T) {
	for _, c := range []struct {
		p, s         string
		end, longest bool
		want         string
	}{
		{"*.", "a.b.c", false, false, "b.c"}, {"*.", "a.b.c", false, true, "c"},
		{".*", "a.b.c", true, false, "a.b"}, {".*", "a.b.c", true, true, "a"},
		{"*", "abc", false, false, "abc"}, {"*", "abc", false, true, ""}, {"*", "abc", true, false, "abc"},
		{"*", "abc", true, true, ""}, {"x", "abc", true, true, "abc"}, {"", "abc", false, true, "abc"},
		{"?", "abc", false, false, "bc"}, {"?", "abc", true, true, "ab"}, {"?", "", false, false, ""}, {"abc", "abc", true, false, ""},
	} {
		if got := pattern.Cut(pattern.Of(c.p), c.s, c.end, c.longest); got != c.want {
			t.Errorf("Cut(%q, %q, %v, %v) = %q", c.p, c.s, c.end, c.longest, got)
		}
	}
}

// P2.1: Plain, Wild, Of.
func TestChars(t *testing.T) {
	if l := pattern.Plain("a*"); !slices.Equal(l, []api.Char{{B: 'a', Q: true}, {B: '*', Q: true}}) {
		t.Error(l)
	}
	if l := pattern.Of(`a\*\\b\`); !slices.Equal(l, []api.Char{{B: 'a'}, {B: '*', Q: true}, {B: '\\', Q: true}, {B: 'b'}, {B: '\\', Q: true}}) {
		t.Error(l)
	}
	if len(pattern.Plain("")) != 0 || len(pattern.Of("")) != 0 || pattern.Wild(nil) {
		t.Error("of nothing")
	}
	for s, want := range map[string]bool{"*": true, "a?": true, "[": true, `\*\?\[`: false, "a]!-": false} {
		if pattern.Wild(pattern.Of(s)) != want {
			t.Error(s)
		}
	}
}

// slow says of the chapter's words what they say, by trying everything.
func slow(p []api.Char, s string) bool {
	if len(p) == 0 {
		return s == ""
	}
	c := p[0]
	if !c.Q && c.B == '*' {
		return slow(p[1:], s) || s != "" && slow(p, s[1:])
	}
	if s == "" {
		return false
	}
	if !c.Q && c.B == '?' {
		return slow(p[1:], s[1:])
	}
	if !c.Q && c.B == '[' {
		if set, rest, ok := slowBracket(p[1:]); ok {
			return set[s[0]] && slow(rest, s[1:])
		}
	}
	return c.B == s[0] && slow(p[1:], s[1:])
}

func slowBracket(p []api.Char) (map[byte]bool, []api.Char, bool) {
	set := map[byte]bool{}
	turned := len(p) > 0 && p[0] == api.Char{B: '!'}
	if turned {
		p = p[1:]
	}
	for first := true; ; first = false {
		if len(p) == 0 {
			return nil, nil, false
		}
		if !first && p[0] == (api.Char{B: ']'}) {
			break
		}
		if len(p) > 2 && p[1] == (api.Char{B: '-'}) && p[2] != (api.Char{B: ']'}) {
			for b := int(p[0].B); b <= int(p[2].B); b++ {
				set[byte(b)] = true
			}
			p = p[3:]
			continue
		}
		set[p[0].B] = true
		p = p[1:]
	}
	if turned {
		other := map[byte]bool{}
		for b := range 256 {
			other[byte(b)] = !set[byte(b)]
		}
		set = other
	}
	return set, p[1:], true
}

func someText(r *rand.Rand, of string, most int) string {
	b := make([]byte, r.Intn(most+1))
	for i := range b {
		b[i] = of[r.Intn(len(of))]
	}
	return string(b)
}

func somePattern(r *rand.Rand) []api.Char {
	p := pattern.Of(someText(r, "**??[[[]]]!!--abcb", 9))
	for i := range p {
		p[i].Q = r.Intn(8) == 0
	}
	return p
}

// P2.1: Match of many patterns is what trying everything tells.
func TestMatchAgainstSlow(t *testing.T) {
	r := rand.New(rand.NewSource(3))
	hits := 0
	for range 200000 {
		p, s := somePattern(r), someText(r, "aabc]-![", 6)
		want := slow(p, s)
		if want {
			hits++
		}
		if got := pattern.Match(p, s); got != want {
			t.Fatalf("Match(%v, %q) = %v", p, s, got)
		}
	}
	if hits < 1000 {
		t.Error("too few that match:", hits)
	}
}

// P2.2: Plain matches its text alone; stars around a pattern match what holds a piece of it.
func TestPlainAndStars(t *testing.T) {
	r := rand.New(rand.NewSource(4))
	star := []api.Char{{B: '*'}}
	for range 20000 {
		s, other := someText(r, "ab*?[]", 4), someText(r, "ab*?[]", 4)
		if pattern.Match(pattern.Plain(s), other) != (s == other) || !pattern.Match(pattern.Plain(s), s) {
			t.Fatal(s, other)
		}
		p := somePattern(r)
		holds := false
		for i := range len(other) + 1 {
			for j := i; j <= len(other); j++ {
				holds = holds || pattern.Match(p, other[i:j])
			}
		}
		if pattern.Match(slices.Concat(star, p, star), other) != holds {
			t.Fatal(p, other)
		}
	}
}

// P2.3: what Cut leaves and what it has taken are the text; the pattern matches what it has taken,
// and nothing shorter (longer).
func TestCutTakes(t *testing.T) {
	r := rand.New(rand.NewSource(5))
	for range 50000 {
		p, s := somePattern(r), someText(r, "aabc]-!", 6)
		end, longest := r.Intn(2) == 0, r.Intn(2) == 0
		left := pattern.Cut(p, s, end, longest)
		n := len(s) - len(left)
		piece := func(n int) string {
			if end {
				return s[len(s)-n:]
			}
			return s[:n]
		}
		if end && piece(n) != strings.TrimPrefix(s, left) || !end && piece(n) != strings.TrimSuffix(s, left) {
			t.Fatal(p, s, left)
		}
		if n > 0 && !pattern.Match(p, piece(n)) {
			t.Fatal(p, s, left)
		}
		for m := range len(s) + 1 {
			if pattern.Match(p, piece(m)) && (n == 0 && m > 0 && (longest || !pattern.Match(p, "")) || n > 0 && (longest && m > n || !longest && m < n)) {
				t.Fatal(p, s, left, m)
			}
		}
	}
}

// P0, R4: long patterns end, what is handed in stays, what is answered is new.
func TestLongAndKept(t *testing.T) {
	p := pattern.Of(strings.Repeat("[[:alpha:]", 400) + strings.Repeat("[", 20000))
	kept := slices.Clone(p)
	if pattern.Match(p, "x") || pattern.Cut(p, "xy", true, true) != "xy" || !slices.Equal(p, kept) {
		t.Error("long")
	}
	if !pattern.Match(pattern.Of(strings.Repeat("*a", 2000)), strings.Repeat("a", 20000)) {
		t.Error("stars")
	}
}
