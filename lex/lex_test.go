package lex_test

import (
	"math"
	"math/rand"
	"reflect"
	"strings"
	"testing"

	"shyard/api"
	"shyard/lex"
)

var rep = strings.Repeat

// short writes tokens: w:, o:, n:, d: and the text; a delimiter's body behind it.
func short(l []api.Token) string {
	var b strings.Builder
	for _, t := range l {
		b.WriteString(map[int]string{api.Word: " w:", api.Op: " o:", api.Newline: " n:", api.Number: " d:"}[t.Kind] + t.Text)
		if t.Doc != "" || t.Raw {
			b.WriteString("{" + t.Doc + "}")
		}
		if t.Raw {
			b.WriteString("!")
		}
	}
	return strings.ReplaceAll(strings.TrimPrefix(b.String(), " "), "n:\n", "n")
}

// P4.1: tokens of ordinary lines, and the edges.
func TestTokensOfLines(t *testing.T) {
	for s, want := range map[string]string{
		"": "", " \t": "", "\n": "n", "a b\n": "w:a w:b n", "a\nb": "w:a n",
		`a "b c"|d 2>e`:       `w:a w:"b c" o:| w:d d:2 o:> w:e`,
		"a#b #c":              "w:a#b",
		"# a 'b\nc":           "n",
		"a;#b\n":              "w:a o:; n",
		"#a\\\nb":             "n",
		"$(a (b) c)x":         "w:$(a (b) c)x",
		"a\\\nb":              "w:a\\\nb",
		"a \\\n b":            "w:a w:b",
		"a \\\n#b":            "w:a",
		"a\\\n#b":             "w:a\\\n#b",
		"a\\\n b":             "w:a\\\n w:b",
		"\\":                  "w:\\",
		"a\\ b":               `w:a\ b`,
		"'a b'c\"d e\"f":      `w:'a b'c"d e"f`,
		"'a\nb' c":            "w:'a\nb' w:c",
		"\"a\nb\" c":          "w:\"a\nb\" w:c",
		`"a'b" c`:             `w:"a'b" w:c`,
		`"a\"b" c`:            `w:"a\"b" w:c`,
		"'a`b' \\`":           "w:'a`b' w:\\`",
		`"$(a "b c" ")")"d`:   `w:"$(a "b c" ")")"d`,
		"$(a ')' \\) \")\")":  "w:$(a ')' \\) \")\")",
		"$(a # b)c":           "w:$(a # b)c",
		"$(a\nb)":             "w:$(a\nb)",
		"${a:-b c}d":          "w:${a:-b c}d",
		"${a:-'}'}d":          "w:${a:-'}'}d",
		`"${a:-'}" b`:         `w:"${a:-'}" w:b`,
		`"${a:-"}"}" b`:       `w:"${a:-"}"}" w:b`,
		`"$(${a:-'}'})" b`:    `w:"$(${a:-'}'})" w:b`,
		`"${a:-${b:-'}}" c`:   `w:"${a:-${b:-'}}" w:c`,
		`${a:-"${b:-'}"} c`:   `w:${a:-"${b:-'}"} w:c`,
		"${a:-{}} b":          "w:${a:-{}} w:b",
		"${a:-(} b":           "w:${a:-(} w:b",
		"${a:-$(})} b":        "w:${a:-$(})} w:b",
		"$a$ $$ $'b c'":       "w:$a$ w:$$ w:$'b c'",
		"$((1+(2)))":          "w:$((1+(2)))",
		"$a(b)":               "w:$a o:( w:b o:)",
		"a&&b||c;;d&e|f;g":    "w:a o:&& w:b o:|| w:c o:;; w:d o:& w:e o:| w:f o:; w:g",
		"<<<<->><&>&<>>|<>()": "o:<< o:<<- o:>> o:<& o:>& o:<> o:>| o:<> o:( o:)",
		"&&&|||;;;<<<>>>":     "o:&& o:& o:|| o:| o:;; o:; o:<< o:<> o:>>",
		"&>a":                 "o:& o:> w:a",
		"9<a 0>b 19>c":        "d:9 o:< w:a d:0 o:> w:b d:19 o:> w:c", "2>a 2 >b 12<c a2>d": "d:2 o:> w:a w:2 o:> w:b d:12 o:< w:c w:a2 o:> w:d",
		"2>&1 2|b '2'>c":     "d:2 o:>& w:1 w:2 o:| w:b w:'2' o:> w:c",
		"2\\\n>a":            "w:2\\\n o:> w:a",
		"2>>a 0<<E\nE\n":     "d:2 o:>> w:a d:0 o:<< w:E n",
		"!{}=[]*?~%^,.:@+-/": "w:!{}=[]*?~%^,.:@+-/",
		"\xff\x00\x0b\r":     "w:\xff\x00\x0b\r",
		"a'":                 "",
	} {
		l, _, _, err := lex.Line(s, 0)
		if got := short(l); got != want || (err != api.OK) != (s == "a'") {
			t.Errorf("Line(%q): %q %d", s, got, err)
		}
	}
}

// P4.1: here-documents, and the place behind them.
func TestDocuments(t *testing.T) {
	for _, c := range []struct {
		s, want string
		next    int
	}{
		{"cat <<E\na\nE\nb", "w:cat o:<< w:E{a\n} n", 12},
		{"cat <<E\na\nE", "w:cat o:<< w:E{a\n} n", 11},
		{"cat << \\\n E >b\na\nE\n", "w:cat o:<< w:E{a\n} o:> w:b n", 19},
		{"<<E\nE\n", "o:<< w:E n", 6},
		{"<<E\n\n E\nE \nE\n", "o:<< w:E{\n E\nE \n} n", 13},
		{"<<A <<B\na\nA\nb\nB\nx", "o:<< w:A{a\n} o:<< w:B{b\n} n", 16},
		{"<<A <<A\nA\nb\nA\n", "o:<< w:A o:<< w:A{b\n} n", 14},
		{"<<-E\n\t\ta\n \tb\n\t\tE\n", "o:<<- w:E{a\n \tb\n} n", 17},
		{"<<E\n\ta\n\tE\nE\n", "o:<< w:E{\ta\n\tE\n} n", 12},
		{"<<'E'\na\nE\n", "o:<< w:'E'{a\n}! n", 10},
		{"<<\"E F\"\na\nE F\n", "o:<< w:\"E F\"{a\n}! n", 14},
		{"<<E\\\\F\na\nE\\F\n", "o:<< w:E\\\\F{a\n}! n", 13},
		{"<<E\\'F\nE'F\n", "o:<< w:E\\'F{}! n", 11},
		{"<<\"a'b\"\nab\n", "o:<< w:\"a'b\"{}! n", 11},
		{"<<''\na\n\nb", "o:<< w:''{a\n}! n", 8},
		{"<<$x\na\n$x\n", "o:<< w:$x{a\n} n", 10},
		{"<<${a'b'}\n${ab}\n", "o:<< w:${a'b'}{}! n", 16},
		{"<<E '\n'\na\nE\n", "o:<< w:E{a\n} w:'\n' n", 12},
		{"<<\nE\n", "o:<< n", 3},
		{"<<2>a\n", "o:<< d:2 o:> w:a n", 6},
		{"<<;E\n", "o:<< o:; w:E n", 5},
		{"<<E\n`'\"$(\nE\n", "o:<< w:E{`'\"$(\n} n", 12},
		{"<<E #'\n#a\nE\n", "o:<< w:E{#a\n} n", 12},
	} {
		l, next, place, err := lex.Line(c.s, 0)
		if got := short(l); got != c.want || next != c.next || place != 0 || err != api.OK {
			t.Errorf("Line(%q): %q %d %d %d", c.s, got, next, place, err)
		}
	}
}

// P4.1: errors, their places, and which comes first.
func TestErrors(t *testing.T) {
	long := rep("a", api.MaxWord+1)
	for _, c := range []struct {
		s     string
		at    int
		place int
		err   api.Errno
	}{
		{rep(" ", api.MaxText+1), 0, 0, api.ErrText}, {rep(" ", api.MaxText+1), -1, 0, api.ErrText}, {rep(" ", api.MaxText), 0, 0, api.OK},
		{"a", -1, 0, api.ErrArg}, {"a", 2, 0, api.ErrArg}, {"a", 1, 0, api.OK}, {"a", math.MinInt, 0, api.ErrArg}, {"a", math.MaxInt, 0, api.ErrArg},
		{`"a`, 0, 0, api.ErrQuote}, {"a 'b", 0, 2, api.ErrQuote}, {"$(a", 0, 0, api.ErrQuote}, {"a${b", 0, 1, api.ErrQuote},
		{`a "b $(c 'd`, 0, 9, api.ErrQuote}, {`a "b $(c 'd' `, 0, 5, api.ErrQuote}, {"$(a (b)", 0, 0, api.ErrQuote}, {"$(a $(b)", 0, 0, api.ErrQuote},
		{"$(a $(b", 0, 4, api.ErrQuote}, {`"a\"`, 0, 0, api.ErrQuote}, {`"a\`, 0, 0, api.ErrQuote}, {"'a\\", 0, 0, api.ErrQuote}, {`"${a'"`, 0, 5, api.ErrQuote},
		{"${a:-'}", 0, 5, api.ErrQuote}, {`"'`, 0, 0, api.ErrQuote},
		{"a `b`", 0, 2, api.ErrBad}, {"\"a `b\"", 0, 3, api.ErrBad}, {"$(`)", 0, 2, api.ErrBad}, {"${a:-`}", 0, 5, api.ErrBad}, {"\"a`", 0, 2, api.ErrBad},
		{"\"${a'`", 0, 5, api.ErrBad}, {"# `\n", 0, 0, api.OK}, {"\\\\`", 0, 2, api.ErrBad}, {"a\n`", 0, 0, api.OK}, {"a\n`", 2, 2, api.ErrBad},
		{long, 0, 0, api.ErrWord}, {"b " + long + " `", 0, 2, api.ErrWord}, {long[1:], 0, 0, api.OK}, {long + "`", 0, api.MaxWord + 1, api.ErrBad},
		{long + "'", 0, api.MaxWord + 1, api.ErrQuote}, {"'" + long[2:] + "'", 0, 0, api.ErrWord}, {"'" + long[3:] + "'", 0, 0, api.OK},
		{rep("1", api.MaxWord+1) + ">a", 0, 0, api.ErrWord},
		{"<<E\na\n", 0, 2, api.ErrDoc}, {"<<E", 0, 2, api.ErrDoc}, {"a <<E b", 0, 4, api.ErrDoc}, {"<<A <<B\nA\nb\n", 0, 6, api.ErrDoc},
		{"<<A <<B\nB\nb\n", 0, 2, api.ErrDoc}, {"<<''\na\n", 0, 2, api.ErrDoc}, {"<<E `\n", 0, 4, api.ErrBad}, {"<<E\na\nEE", 0, 2, api.ErrDoc},
		{"<<a\\\nb\na\nb\nab\n", 0, 2, api.ErrDoc}, {"<<-'\tE'\n\tE\nE\n", 0, 3, api.ErrDoc}, {"<<E\n E\n", 0, 2, api.ErrDoc},
		{rep("$(", 24) + rep(")", 24), 0, 0, api.OK}, {rep("$(", 25) + rep(")", 25), 0, 48, api.ErrNest}, {rep("$(", 25), 0, 48, api.ErrNest},
		{rep("${a:-", 25), 0, 120, api.ErrNest}, {rep("$(", 24) + "\"", 0, 48, api.ErrNest}, {rep("$(", 24) + "''" + rep(")", 24), 0, 0, api.OK},
		{rep("$(", 24) + "'", 0, 48, api.ErrQuote}, {rep("$(", 24) + rep("(", 99) + rep(")", 99) + rep(")", 24), 0, 0, api.OK},
		{rep(`"$(`, 12) + rep(`)"`, 12), 0, 0, api.OK}, {rep(`"$(`, 13), 0, 36, api.ErrNest}, {rep("$(", 24) + "`$(", 0, 48, api.ErrBad},
		{rep("$(", 24) + "\\$(" + ")" + rep(")", 24), 0, 0, api.OK},
	} {
		l, next, place, err := lex.Line(c.s, c.at)
		if place != c.place || err != c.err || err != api.OK && (len(l) != 0 || next != 0) {
			t.Errorf("Line(%.40q, %d): %d %d %d", c.s, c.at, next, place, err)
		}
	}
}

// P4.1: End.
func TestEnd(t *testing.T) {
	for _, c := range []struct {
		s           string
		at, depth   int
		quoted      bool
		next, place int
		err         api.Errno
	}{
		{"'a'b", 0, 0, false, 3, 0, api.OK}, {"'a'b", 0, 0, true, 0, 0, api.OK}, {`x"a'"b`, 1, 0, true, 5, 0, api.OK}, {"$(a)b", 0, 0, false, 4, 0, api.OK},
		{"${a}b", 0, 0, false, 4, 0, api.OK}, {"${a'}b", 0, 0, true, 5, 0, api.OK}, {"${a'}b", 0, 0, false, 0, 3, api.ErrQuote}, {"${a'}'}b", 0, 0, false, 7, 0, api.OK},
		{"$(a'b)", 0, 0, true, 0, 3, api.ErrQuote}, {"$(${a'}'})", 0, 0, true, 10, 0, api.OK},
		{"a", 0, 0, false, 0, 0, api.OK}, {"$a", 0, 0, false, 0, 0, api.OK}, {"$", 0, 0, false, 0, 0, api.OK}, {"`", 0, 0, false, 0, 0, api.OK}, {`\'a'`, 0, 0, false, 0, 0, api.OK},
		{"'a'", -1, 0, false, 0, 0, api.OK}, {"'a'", 3, 0, false, 0, 0, api.OK}, {"'a'", 4, 0, false, 0, 0, api.OK}, {"'a'", 0, -1, false, 0, 0, api.OK}, {"'a'", 0, 25, false, 0, 0, api.OK},
		{"'a'", math.MaxInt, math.MinInt, false, 0, 0, api.OK}, {"'a'", 0, 24, false, 3, 0, api.OK}, {`"a"`, 0, 24, false, 0, 0, api.ErrNest}, {` "a"`, 1, 24, false, 0, 1, api.ErrNest},
		{`"a"`, 0, 23, false, 3, 0, api.OK}, {`"$()"`, 0, 23, false, 0, 1, api.ErrNest}, {"'a", 0, 0, false, 0, 0, api.ErrQuote}, {` "a`, 1, 0, false, 0, 1, api.ErrQuote},
		{"x$(`)", 1, 0, false, 0, 3, api.ErrBad}, {"''" + rep("a", api.MaxText-2), 0, 0, false, 2, 0, api.OK}, {"''" + rep("a", api.MaxText-1), 0, 0, false, 0, 0, api.ErrText}, {"'" + rep("a", 5000) + "'", 0, 0, false, 5002, 0, api.OK},
	} {
		next, place, err := lex.End(c.s, c.at, c.depth, c.quoted)
		if next != c.next || place != c.place || err != c.err {
			t.Errorf("End(%.40q, %d, %d, %v): %d %d %d", c.s, c.at, c.depth, c.quoted, next, place, err)
		}
	}
}

func someText(r *rand.Rand) string {
	pieces := []string{"a", "b1", "2", " ", "\t", "\n", "\\\n", "\\", "'", "\"", "$(", "${", ")", "}", "(", "<<E", "<<-'E'", "\nE\n", "E", "#", "&", ";;", "<", ">|", "|", "`", "$", "x y"}
	var b strings.Builder
	for range r.Intn(14) {
		n := len(pieces)
		if r.Intn(4) > 0 {
			n = 8
		}
		b.WriteString(pieces[r.Intn(n)])
	}
	if r.Intn(3) == 0 {
		b.WriteString("\nE\nE\n")
	}
	return b.String()
}

// P4.2: Tokens gives what Line gives; what Line reads hangs on its own bytes alone.
func TestTokensAndLine(t *testing.T) {
	r := rand.New(rand.NewSource(8))
	good := 0
	for range 100000 {
		s := someText(r)
		var want []api.Token
		var last api.Errno
		for at := 0; at < len(s); {
			l, next, _, err := lex.Line(s, at)
			if last = err; err != api.OK {
				break
			}
			if next <= at {
				t.Fatalf("%q: %d to %d", s, at, next)
			}
			around, shift, _, err := lex.Line("'`"+s[at:next]+"\n"[:min(1, len(s)-next)]+"x`"[:min(2, 2*(len(s)-next))], 2)
			for i := range around {
				around[i].At += at - 2
			}
			if err != api.OK || shift != next-at+2 || !reflect.DeepEqual(around, l) {
				t.Fatalf("%q at %d: %v %d %d", s, at, around, shift, err)
			}
			want = append(want, l...)
			at = next
			good++
		}
		for range 2 {
			var got []api.Token
			var end api.Errno
			for tok, err := range lex.Tokens(s) {
				if end != api.OK || err != api.OK && !reflect.DeepEqual(tok, api.Token{}) {
					t.Fatalf("%q: %v %d", s, tok, err)
				}
				if end = err; err == api.OK {
					got = append(got, tok)
				}
			}
			if end != last || !reflect.DeepEqual(got, want) {
				t.Fatalf("%q: %v %d, want %v %d", s, got, end, want, last)
			}
		}
	}
	if good < 1000 {
		t.Error("too few lines that are read:", good)
	}
	for tok := range lex.Tokens("a b c") {
		if tok.Text != "a" {
			t.Error(tok)
		}
		break
	}
	n := 0
	for tok, err := range lex.Tokens(rep("\n", api.MaxText+1)) {
		if n++; n > 1 || err != api.ErrText || tok.Kind != 0 {
			t.Error(tok, err)
		}
	}
}

// P4.3: each token stands where it says; between two there are blanks, remarks and here-documents alone.
func TestPlaces(t *testing.T) {
	r := rand.New(rand.NewSource(9))
	for range 100000 {
		s := someText(r)
		for at := 0; at < len(s); {
			l, next, _, err := lex.Line(s, at)
			if err != api.OK {
				break
			}
			place := at
			for _, tok := range l {
				if !strings.HasPrefix(s[tok.At:], tok.Text) || tok.At < place || !isGap(s[place:tok.At]) || tok.Text == "" {
					t.Fatalf("%q: %v behind %d", s, tok, place)
				}
				place = tok.At + len(tok.Text)
			}
			if docs := s[place:next]; !isGap(docs) && !strings.Contains(s[at:place], "<<") {
				t.Fatalf("%q: %q behind the line", s, docs)
			}
			at = next
		}
	}
}

func isGap(s string) bool {
	s = strings.ReplaceAll(s, "\\\n", "")
	s = strings.TrimLeft(s, " \t")
	return s == "" || s[0] == '#' && !strings.Contains(s, "\n")
}
