package word_test

import (
	"math"
	"math/rand"
	"reflect"
	"slices"
	"strings"
	"testing"

	"shyard/api"
	"shyard/lex"
	"shyard/octet"
	"shyard/word"
)

// short writes parts: L text, P, C, A, T; Quoted parts in < >; a Word in ( ).
func short(l []api.Part) string {
	var s []string
	for _, p := range l {
		t := string(" LPCAT"[p.Kind]) + ":" + p.Text
		if p.Op != "" {
			t += "|" + p.Op
		}
		if p.Word != nil || p.Op != "" && p.Op != "len" || p.Kind == api.Arith {
			t += "(" + short(p.Word) + ")"
		}
		if p.Quoted {
			t = "<" + t + ">"
		}
		s = append(s, t)
	}
	return strings.Join(s, " ")
}

// P5.1: the parts of words.
func TestWords(t *testing.T) {
	for s, want := range map[string]string{
		"": "", "a": "L:a", "a'b'$x": "L:a <L:b> P:x", `"a $x"`: "<L:a > <P:x>", `""`: "<L:>", "''": "<L:>", `""''`: "<L:>", `""a`: "<L:> L:a", `''"a"`: "<L:a>",
		"a\\\nb": "L:ab", "\\\n": "", "\"\\\n\"": "<L:>", `a\b`: "L:a <L:b>", `\\`: `<L:\>`, `\`: `<L:\>`, `a\`: `L:a <L:\>`, `\'`: "<L:'>", "\\`": "<L:`>",
		`'\a'`: `<L:\a>`, `"\a\$\"\\\` + "`" + `"`: "<L:\\a$\"\\`>", `"'"`: "<L:'>", "'\"$x`'": "<L:\"$x`>", "\"a\\\nb\"": "<L:ab>",
		"~": "T:~", "~/a": "T:~ L:/a", "~a": "L:~a", "a~": "L:a~", "~~": "L:~~", `"~"`: "<L:~>", `\~`: "<L:~>", "~\\\n/": "L:~/", "\\\n~": "L:~", `~""`: "L:~ <L:>",
		"$x": "P:x", "$0$9": "P:0 P:9", "${19}": "P:19", "${#0}": "P:0|len", "$x1_y-z": "P:x1_y L:-z", "$10": "P:1 L:0", "$@$*$#$?$$$!": "P:@ P:* P:# P:? P:$ P:!", "$-": "L:$-", "$": "L:$", "$ a": "L:$ a", "$/": "L:$/", "$'a'": "L:$ <L:a>", `$"a"`: "L:$ <L:a>",
		"$x\\\ny": "P:x L:y", "a$": "L:a$", "$%": "L:$%", "$_": "P:_", "$é": "L:$é",
		"$(a b)": "C:a b", `"$(a)"`: "<C:a>", "$()": "C:", "$(a)b": "C:a L:b", "$(a (b) c)": "C:a (b) c", "$((a) b)": "C:(a) b", "$((a) (b))": "C:(a) (b)", "$( (a))": "C: (a)", "$((a) )": "C:(a) ",
		"$((1+$x))": "A:(<L:1+> <P:x>)", "$(())": "A:()", "$(( ))": "A:(<L: >)", `$((\$\'\"))`: `A:(<L:$\'\">)`, `$(("1"))`: `A:(<L:"1">)`, `$((")"))`: `A:(<L:")">)`, "$(((a) b))": "A:(<L:(a) b>)",
		"$(($((1))+$(b)))": "A:(<A:(<L:1>)> <L:+> <C:b>)", `"$((1))"`: "<A:(<L:1>)>", "$((a\\\nb))": "A:(<L:ab>)", "$((~))": "A:(<L:~>)",
		"${x}": "P:x", "${#}": "P:#", "${#x}": "P:x|len", "${##}": "P:#|len", "${#10}": "P:10|len", "${#@}": "P:@|len", "${#*}": "P:*|len", "${#?}": "P:?|len", "${#!}": "P:!|len", "${#$}": "P:$|len",
		"${10}": "P:10", "${@}": "P:@", "${?}": "P:?", "${#-}": "P:#|-()", "${#-x}": "P:#|-(L:x)", "${#:-x}": "P:#|:-(L:x)", "${###}": "P:#|##()", "${##x}": "P:#|#(L:x)", "${#?x}": "P:#|?(L:x)", "${#%%}": "P:#|%%()",
		"${x:-a}": "P:x|:-(L:a)", "${x:=a}": "P:x|:=(L:a)", "${x:?a}": "P:x|:?(L:a)", "${x:+a}": "P:x|:+(L:a)", "${x-a}": "P:x|-(L:a)", "${x=a}": "P:x|=(L:a)", "${x?}": "P:x|?()", "${x+}": "P:x|+()",
		"${x%a}": "P:x|%(L:a)", "${x%%a}": "P:x|%%(L:a)", "${x%%%a}": "P:x|%%(L:%a)", "${x#a}": "P:x|#(L:a)", "${x##a}": "P:x|##(L:a)", "${x###a}": "P:x|##(L:#a)", "${x--}": "P:x|-(L:-)", "${x:--}": "P:x|:-(L:-)",
		"${x:-~}": "P:x|:-(T:~)", "${x:-~/a}": "P:x|:-(T:~ L:/a)", "${x:-a~}": "P:x|:-(L:a~)", `"${x:-~}"`: "<P:x|:-(<L:~>)>", `"${x%~}"`: "<P:x|%(T:~)>", "${x:-'a b'\"c\"}": "P:x|:-(<L:a bc>)",
		`"${x:-'a'"b"}"`: `<P:x|:-(<L:'a'"b">)>`, `"${x#'a'"b"}"`: "<P:x|#(<L:ab>)>", `"${x:-"}"}"`: `<P:x|:-(<L:"}">)>`, `"${x:-a\}\"}"`: `<P:x|:-(<L:a\}">)>`, `${x:-\}}`: "P:x|:-(<L:}>)",
		"${x:-${y:-z}}": "P:x|:-(P:y|:-(L:z))", "${x:-$(a)}": "P:x|:-(C:a)", "${x:-\"$y\"}": "P:x|:-(<P:y>)", "${x:-\\\n}": "P:x|:-()", "$((${x:-'}'}))": "A:(<P:x|:-(<L:'>)> <L:'}>)",
		"a=b": "L:a=b", "*[?]": "L:*[?]", `\*`: "<L:*>", "{a}": "L:{a}", "\xff\x00\n": "L:\xff\x00\n",
	} {
		l, err := word.Parts(s, 0)
		if got := short(l); got != want || err != api.OK {
			t.Errorf("Parts(%q, 0): %s %d, want %s", s, got, err, want)
		}
	}
}

// P5.1: texts within double quotes, and bodies.
func TestOtherKinds(t *testing.T) {
	for _, c := range []struct{ s, one, two string }{
		{"", "", ""}, {"a b", "<L:a b>", "<L:a b>"}, {`'a"b`, `<L:'a"b>`, `<L:'a"b>`}, {"~", "<L:~>", "<L:~>"}, {"a\\\nb", "<L:ab>", "<L:ab>"}, {"\\\n", "", ""},
		{`\$\\\a\` + "`", "<L:$\\\\a`>", "<L:$\\\\a`>"}, {`\"`, `<L:">`, `<L:\">`}, {`a\`, `<L:a\>`, `<L:a\>`}, {"$x$", "<P:x> <L:$>", "<P:x> <L:$>"}, {"$(a)$((1))", "<C:a> <A:(<L:1>)>", "<C:a> <A:(<L:1>)>"},
		{"${x:-it's}", "<P:x|:-(<L:it's>)>", "<P:x|:-(<L:it's>)>"}, {"${x%'a'}", "<P:x|%(<L:a>)>", "<P:x|%(<L:a>)>"}, {`${x:-\"}`, `<P:x|:-(<L:">)>`, `<P:x|:-(<L:\">)>`}, {"${#x}", "<P:x|len>", "<P:x|len>"},
		{"$(a ')' b)", "<C:a ')' b>", "<C:a ')' b>"}, {`\` + "\n" + `~`, "<L:~>", "<L:~>"},
	} {
		for kind, want := range []string{c.one, c.two} {
			l, err := word.Parts(c.s, kind+1)
			if got := short(l); got != want || err != api.OK {
				t.Errorf("Parts(%q, %d): %s %d, want %s", c.s, kind+1, got, err, want)
			}
		}
	}
}

// P5.1: what is refused, and which error comes first.
func TestErrors(t *testing.T) {
	rep := strings.Repeat
	for _, c := range []struct {
		s    string
		kind int
		err  api.Errno
	}{
		{rep("a", api.MaxText+1), 0, api.ErrText}, {rep("a", api.MaxText+1), 9, api.ErrText}, {rep("a", api.MaxText), 0, api.OK}, {"a", 3, api.ErrArg}, {"a", -1, api.ErrArg}, {"`", math.MaxInt, api.ErrArg},
		{"`", 0, api.ErrBad}, {"a`", 1, api.ErrBad}, {"`a`", 2, api.ErrBad}, {"\"`\"", 0, api.ErrBad}, {"$(`)", 0, api.ErrBad}, {"${x:-`}", 0, api.ErrBad}, {"\\\\`", 1, api.ErrBad},
		{"'a", 0, api.ErrQuote}, {`"a`, 0, api.ErrQuote}, {"$(a", 1, api.ErrQuote}, {"${a", 2, api.ErrQuote}, {"$((1)", 0, api.ErrQuote}, {"${x:-'}", 0, api.ErrQuote}, {`"${x#'}"`, 0, api.ErrQuote},
		{"${}", 0, api.ErrBad}, {"${-}", 0, api.ErrBad}, {"${x }", 0, api.ErrBad}, {"${ x}", 0, api.ErrBad}, {"${x:}", 0, api.ErrBad}, {"${x:a}", 0, api.ErrBad}, {"${x/a}", 0, api.ErrBad}, {"${1a}", 0, api.ErrBad}, {"${x!}", 0, api.ErrBad},
		{"${#x-}", 0, api.ErrBad}, {"${#x:-y}", 0, api.ErrBad}, {"${x\\\n}", 0, api.ErrBad}, {"${$x}", 0, api.ErrBad}, {"${'x'}", 0, api.ErrBad}, {"${@@}", 0, api.ErrBad}, {"${a.b}", 0, api.ErrBad}, {"${%}", 0, api.ErrBad}, {"${#%x}", 0, api.OK},
		{"${} 'a", 0, api.ErrBad}, {"'a' ${} `", 0, api.ErrBad}, {"'a ${}", 0, api.ErrQuote}, {"${x:-${}'a'}", 0, api.ErrBad}, {"${x:-${}'a}", 0, api.ErrQuote}, {"\"${}\" 'a", 0, api.ErrBad}, {"\"${} 'a", 0, api.ErrQuote},
		{"$((${}))", 0, api.ErrBad}, {"$((${x))", 0, api.ErrQuote}, {"$(${})", 0, api.OK}, {"${x:-${y:}}", 0, api.ErrBad},
		{rep("$(", 24) + rep(")", 24), 0, api.OK}, {rep("$(", 25) + rep(")", 25), 0, api.ErrNest}, {rep("${x:-", 24) + rep("}", 24), 0, api.OK}, {rep("${x:-", 25) + rep("}", 25), 0, api.ErrNest},
		{rep("$((", 24) + "1" + rep("))", 24), 0, api.OK}, {rep("$((", 25) + "1" + rep("))", 25), 0, api.ErrNest}, {rep(`"${x:-`, 12) + rep(`}"`, 12), 0, api.OK}, {rep("${x:-", 24) + `"` + rep("}", 24), 1, api.ErrNest},
		{rep("${x:-", 24) + "''" + rep("}", 24), 0, api.OK},
		// What single quotes hide from layer 4 is seen within an expression.
		{`"$(('` + rep("$(", 22) + rep(")", 22) + `'))"`, 0, api.OK}, {`"$(('` + rep("$(", 23) + rep(")", 23) + `'))"`, 0, api.ErrNest}, {"${x:-$(('" + rep("$(", 23) + rep(")", 23) + "'))}", 0, api.ErrNest}, {"${}" + rep("$(", 25), 0, api.ErrBad},
	} {
		l, err := word.Parts(c.s, c.kind)
		if err != c.err || err != api.OK && len(l) != 0 {
			t.Errorf("Parts(%.40q, %d): %s %d, want %d", c.s, c.kind, short(l), err, c.err)
		}
	}
}

// P5.1: Static and Assign.
func TestStaticAndAssign(t *testing.T) {
	for s, want := range map[string]string{"": "", "a'b'\"c\"\\d": "abcd", "''": ""} {
		l, _ := word.Parts(s, 0)
		if got, ok := word.Static(l); got != want || !ok {
			t.Errorf("Static of %q: %q %v", s, got, ok)
		}
	}
	for _, s := range []string{"$x", "a$(b)", "~", "a$((1))"} {
		l, _ := word.Parts(s, 0)
		if got, ok := word.Static(l); got != "" || ok {
			t.Errorf("Static of %q: %q %v", s, got, ok)
		}
	}
	for s, want := range map[string][2]string{"a=b": {"a", "b"}, "_1=": {"_1", ""}, "a==b=": {"a", "=b="}, "x='a b'": {"x", "'a b'"}} {
		if name, value, ok := word.Assign(s); name != want[0] || value != want[1] || !ok {
			t.Errorf("Assign(%q): %q %q %v", s, name, value, ok)
		}
	}
	for _, s := range []string{"", "=", "a", "=b", "1=b", "a-=b", "a b=c", "'a'=b", "$a=b", "a+=b", "a\n=b"} {
		if name, value, ok := word.Assign(s); name != "" || value != "" || ok {
			t.Errorf("Assign(%q): %q %q %v", s, name, value, ok)
		}
	}
}

// P5.1: Walk goes down, may be stopped, and gone through again.
func TestWalk(t *testing.T) {
	l, _ := word.Parts("a${x:-b$((c${y:-d}))}e", 0)
	seq := word.Walk(l)
	for stop := 1; stop < 9; stop++ {
		var got []string
		for p := range seq {
			got = append(got, p.Text)
			if len(got) == stop {
				break
			}
		}
		want := []string{"a", "x", "b", "", "c", "y", "d", "e"}[:stop]
		if !slices.Equal(got, want) {
			t.Error(got)
		}
	}
	deep := []api.Part{{Kind: api.Lit}}
	for range 1 << 16 {
		deep = []api.Part{{Kind: api.Arith, Word: deep}}
	}
	n := 0
	for range word.Walk(deep) {
		n++
	}
	if n != 1<<16+1 {
		t.Error(n)
	}
	for p := range word.Walk(nil) {
		t.Error(p)
	}
}

func someText(r *rand.Rand, most int) string {
	pieces := []string{"a", "~", "/", "1", " ", "\n", "\\", "\\\n", "'", "\"", "$", "$x", "$(", "$((", "))", "${", "${x", ":-", "%", "#", "}", ")", "(", "`", "=", "\xff"}
	var b strings.Builder
	for range r.Intn(most) {
		b.WriteString(pieces[r.Intn(len(pieces))])
	}
	return b.String()
}

// P5.2: what Quote writes is read as the text.
func TestQuoted(t *testing.T) {
	r := rand.New(rand.NewSource(10))
	for range 50000 {
		s := someText(r, 8)
		if r.Intn(2) == 0 {
			b := make([]byte, r.Intn(9))
			r.Read(b)
			s = string(b)
		}
		l, err := word.Parts(octet.Quote(s), 0)
		if got, ok := word.Static(l); err != api.OK || got != s || !ok {
			t.Fatalf("%q: %q %v %d", s, got, ok, err)
		}
		if tokens, _, _, err := lex.Line(octet.Quote(s), 0); err != api.OK || len(tokens) != 1 || tokens[0].Kind != api.Word {
			t.Fatalf("%q: %v %d", s, tokens, err)
		}
	}
}

// P5.3: parts of kinds 1 and 2 are all Quoted. Beside: Lits side by side are one; what is answered is told again.
func TestAllQuoted(t *testing.T) {
	r := rand.New(rand.NewSource(11))
	good := 0
	for range 200000 {
		s, kind := someText(r, 9), r.Intn(3)
		l, err := word.Parts(s, kind)
		again, err2 := word.Parts(s, kind)
		if err != err2 || !reflect.DeepEqual(l, again) || err != api.OK && len(l) > 0 {
			t.Fatalf("%q: %s %d", s, short(l), err)
		}
		if err == api.OK {
			good++
		}
		for i, p := range l {
			if kind > 0 && !p.Quoted {
				t.Fatalf("%q: %s", s, short(l))
			}
			if i > 0 && p.Kind == api.Lit && l[i-1].Kind == api.Lit && p.Quoted == l[i-1].Quoted {
				t.Fatalf("%q: %s", s, short(l))
			}
			if p.Kind != api.Param && p.Op != "" || p.Kind == api.Arith && p.Text != "" || p.Kind == api.Tilde && (p.Quoted || i > 0) {
				t.Fatalf("%q: %s", s, short(l))
			}
		}
	}
	if good < 20000 {
		t.Error("too few that are read:", good)
	}
}
