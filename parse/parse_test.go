package parse_test

import (
	"math"
	"math/rand"
	"reflect"
	"strconv"
	"strings"
	"testing"

	"shyard/api"
	"shyard/parse"
)

var rep = strings.Repeat

// short writes a tree in one line.
func short(n api.Node) string {
	var kids []string
	for _, k := range n.Kids {
		kids = append(kids, short(k))
	}
	s := [...]string{"?", "S", "Pipe", "And", "Or", "List", "Async", "Sub", "Group", "If", "While", "Until", "For", "Case", "Fn"}[n.Kind]
	if n.Not {
		s += "!"
	}
	if n.Name != "" {
		s += ":" + n.Name
	}
	if n.In {
		s += " in"
	}
	if len(n.Words) > 0 {
		s += "<" + strings.Join(n.Words, " ") + ">"
	}
	if len(kids) > 0 {
		s += "(" + strings.Join(kids, ", ") + ")"
	}
	for _, r := range n.Redirs {
		s += " " + strconv.Itoa(r.Fd) + r.Op + r.Word
		if r.Op == "<<" {
			s += "{" + r.Doc + "}"
		}
		if r.Raw {
			s += "!"
		}
	}
	return s
}

// P6.1: the trees of complete commands, and the place behind them.
func TestTrees(t *testing.T) {
	for _, c := range []struct {
		s    string
		next int
		want string
	}{
		{"a", 1, "S<a>"}, {"a b\nc", 4, "S<a b>"}, {"\n\n a\n\nb", 5, "S<a>"}, {"# x\na # b\n", 10, "S<a>"},
		{"a; b & c", 8, "List(S<a>, Async(S<b>), S<c>)"}, {"a;\nb", 3, "S<a>"}, {"a&\nb", 3, "List(Async(S<a>))"}, {"a;b", 3, "List(S<a>, S<b>)"}, {"a&&b||c", 7, "Or(And(S<a>, S<b>), S<c>)"},
		{"a || b && c &", 13, "List(Async(And(Or(S<a>, S<b>), S<c>)))"}, {"a &&\n\nb |\nc", 11, "And(S<a>, Pipe(S<b>, S<c>))"}, {"! a", 3, "Pipe!(S<a>)"}, {"! a | b|c", 9, "Pipe!(S<a>, S<b>, S<c>)"},
		{"a && ! b", 8, "And(S<a>, Pipe!(S<b>))"}, {"echo if ! } fi", 14, "S<echo if ! } fi>"}, {"'if' a", 6, "S<'if' a>"}, {`\if a`, 5, `S<\if a>`}, {"ifx a", 5, "S<ifx a>"},
		{"x=1 if", 6, "S<x=1 if>"}, {">f a <g 2>&1 b", 14, "S<a b> -1>f -1<g 2>&1"}, {"<f", 2, "S -1<f"}, {"a >|b >>c 0<>d 9<&- 007>e", 25, "S<a> -1>|b -1>>c 0<>d 9<&- 7>e"},
		{"a <<E b\nx\nE\nc", 12, "S<a b> -1<<{x\n}"}, {"a <<-'E'\n\tx\nE\nc", 14, "S<a> -1<<{x\n}!"}, {"a <<A; b <<B\n1\nA\n2\nB\nc", 21, "List(S<a> -1<<{1\n}, S<b> -1<<{2\n})"}, {"{ a <<E\nx\nE\n}", 13, "Group(S<a> -1<<{x\n})"},
		{"(a)", 3, "Sub(S<a>)"}, {"( a; b & ) >x <y", 16, "Sub(List(S<a>, Async(S<b>))) -1>x -1<y"}, {"(\n\na\n\n\nb;\n)\n", 12, "Sub(List(S<a>, S<b>))"}, {"((a))", 5, "Sub(Sub(S<a>))"}, {"(a&)", 4, "Sub(List(Async(S<a>)))"},
		{"{ a; }", 6, "Group(S<a>)"}, {"{\na\n} 2>x", 9, "Group(S<a>) 2>x"}, {"{ { a; } }", 10, "Group(Group(S<a>))"}, {"{ (a) }", 7, "Group(Sub(S<a>))"}, {"{ a }; }", 8, "Group(S<a }>)"}, {"{a; }", 3, ""},
		{"if a; then b; fi >x", 19, "If(S<a>, S<b>) -1>x"}, {"if a\nthen b\nelif c\nthen d\nelif e; then f\nelse g; h\nfi", 53, "If(S<a>, S<b>, S<c>, S<d>, S<e>, S<f>, List(S<g>, S<h>))"},
		{"if (a) then { b; } else c& fi", 29, "If(Sub(S<a>), Group(S<b>), List(Async(S<c>)))"}, {"while a; b; do c; done", 22, "While(List(S<a>, S<b>), S<c>)"}, {"until ! a\ndo\nb\ndone <x", 22, "Until(Pipe!(S<a>), S<b>) -1<x"},
		{"for x in a b; do c; done", 24, "For:x in<a b>(S<c>)"}, {"for x in; do c; done", 20, "For:x in(S<c>)"}, {"for x in\n\ndo c; done", 20, "For:x in(S<c>)"}, {"for x do c; done", 16, "For:x(S<c>)"}, {"for x; do c; done", 17, "For:x(S<c>)"},
		{"for x\n\n;\n\ndo c; done", 20, "For:x(S<c>)"}, {"for x\n\nin a\n\ndo c\ndone >y", 25, "For:x in<a>(S<c>) -1>y"}, {"for in in in do; do c; done", 27, "For:in in<in do>(S<c>)"}, {"for if do a; done", 17, "For:if(S<a>)"},
		{"case $x in a|b) c;; *) esac", 27, "Case:$x<a b ) * )>(S<c>, List)"}, {"case x in esac", 14, "Case:x"}, {"case x\n\nin\n\n(a)\n\nb\n;;\n\n(esac|if)c;;\nesac >y", 43, "Case:x<a ) esac if )>(S<b>, S<c>) -1>y"},
		{"case in in in) ;; esac", 22, "Case:in<in )>(List)"}, {"case x in a) b; c; esac", 23, "Case:x<a )>(List(S<b>, S<c>))"}, {"case x in a) b& ;; b) c\nesac", 28, "Case:x<a ) b )>(List(Async(S<b>)), S<c>)"}, {"case esac in (esac) a;; esac", 28, "Case:esac<esac )>(S<a>)"},
		{"case x in a|esac) b;; esac", 26, "Case:x<a esac )>(S<b>)"}, {"case x in 1) a;; esac", 21, "Case:x<1 )>(S<a>)"}, {"case x in a)\n\nesac", 18, "Case:x<a )>(List)"},
		{"f() { a; }", 10, "Fn:f(Group(S<a>))"}, {"f ( )\n\n(a) >x", 13, "Fn:f(Sub(S<a>) -1>x)"}, {"f() if a; then b; fi | c", 24, "Pipe(Fn:f(If(S<a>, S<b>)), S<c>)"}, {"f() { g() { a; }; }", 19, "Fn:f(Group(Fn:g(Group(S<a>))))"}, {"a; f() { b; } && c", 18, "List(S<a>, And(Fn:f(Group(S<b>)), S<c>))"},
		{"{ a; } | (b) && while a; do b; done", 35, "And(Pipe(Group(S<a>), Sub(S<b>)), While(S<a>, S<b>))"}, {"a 2>b c2>d", 10, "S<a c2> 2>b -1>d"}, {"a\\\nb c", 6, "S<a\\\nb c>"}, {"$(a b) \"c d\"", 12, "S<$(a b) \"c d\">"},
		{"a & b;", 6, "List(Async(S<a>), S<b>)"}, {"(a)&", 4, "List(Async(Sub(S<a>)))"}, {"a\n'", 2, "S<a>"}, {"a\n)", 2, "S<a>"}, {"a <<E\nE", 7, "S<a> -1<<{}"},
	} {
		n, there, next, place, err := parse.First(c.s, 0)
		if c.want == "" {
			if there || err != api.ErrSyntax {
				t.Errorf("First(%q): %s %d", c.s, short(n), err)
			}
		} else if got := short(n); got != c.want || !there || next != c.next || place != 0 || err != api.OK {
			t.Errorf("First(%q): %s %v %d %d %d, want %s %d", c.s, got, there, next, place, err, c.want, c.next)
		}
	}
}

// P6.1: nothing left, and places to begin at.
func TestNothing(t *testing.T) {
	for _, s := range []string{"", "\n", " \n\t\n # x", "\\\n\n#"} {
		for at := range len(s) + 1 {
			n, there, next, place, err := parse.First(s, at)
			if at > 0 && s[at-1] == '\\' || strings.LastIndex(s[:at], "#") > strings.LastIndex(s[:at], "\n") {
				continue
			}
			if n.Kind != 0 || there || next != len(s) || place != 0 || err != api.OK {
				t.Errorf("First(%q, %d): %s %v %d %d %d", s, at, short(n), there, next, place, err)
			}
		}
	}
	n, there, next, _, err := parse.First("a\nb c\n\n", 2)
	if short(n) != "S<b c>" || !there || next != 6 || err != api.OK {
		t.Error(short(n), there, next, err)
	}
	if _, there, next, _, _ := parse.First("a\nb c\n\n", 6); there || next != 7 {
		t.Error(there, next)
	}
	for _, at := range []int{-1, 3, math.MinInt, math.MaxInt} {
		if n, there, next, place, err := parse.First("ab", at); n.Kind != 0 || there || next != 0 || place != 0 || err != api.ErrArg {
			t.Error(at, there, next, place, err)
		}
	}
}

// P6.1: errors and their places.
func TestErrors(t *testing.T) {
	for _, c := range []struct {
		s     string
		place int
		err   api.Errno
	}{
		{"a && b | ! c", 9, api.ErrSyntax}, {"fi", 0, api.ErrSyntax}, {"<f if", 3, api.ErrSyntax}, {"(a", 2, api.ErrSyntax}, {"(a\n", 3, api.ErrSyntax}, {"! ! a", 2, api.ErrSyntax}, {"!", 1, api.ErrSyntax}, {"!\na", 1, api.ErrSyntax},
		{"a &&", 4, api.ErrSyntax}, {"a &&\n", 5, api.ErrSyntax}, {"a && && b", 5, api.ErrSyntax}, {"&& a", 0, api.ErrSyntax}, {"a | | b", 4, api.ErrSyntax}, {"a |", 3, api.ErrSyntax}, {";", 0, api.ErrSyntax}, {"a; ; b", 3, api.ErrSyntax}, {"a &;", 3, api.ErrSyntax}, {"a;;b", 1, api.ErrSyntax},
		{"a )", 2, api.ErrSyntax}, {")", 0, api.ErrSyntax}, {"a (b", 3, api.ErrSyntax}, {"a b (", 4, api.ErrSyntax}, {"1x() { a; }", 2, api.ErrSyntax}, {"a-b ()", 4, api.ErrSyntax}, {">x f ()", 5, api.ErrSyntax}, {"'f'() (a)", 3, api.ErrSyntax}, {"f (a) { b; }", 3, api.ErrSyntax},
		{"f() a", 4, api.ErrSyntax}, {"f()", 3, api.ErrSyntax}, {"f()\n", 4, api.ErrSyntax}, {"f() g() { a; }", 4, api.ErrSyntax}, {"f() ! { a; }", 4, api.ErrSyntax}, {"f() }", 4, api.ErrSyntax}, {"f() >x { a; }", 4, api.ErrSyntax}, {"if() { a; }", 3, api.ErrSyntax}, {"fi() { a; }", 0, api.ErrSyntax},
		{"()", 1, api.ErrSyntax}, {"{ }", 2, api.ErrSyntax}, {"{ a }", 5, api.ErrSyntax}, {"(a))", 3, api.ErrSyntax}, {"(a) b", 4, api.ErrSyntax}, {"{ a; } b", 7, api.ErrSyntax}, {"(a;;)", 2, api.ErrSyntax}, {"(a; )b", 5, api.ErrSyntax}, {"( ; a)", 2, api.ErrSyntax}, {"(a\n; b)", 3, api.ErrSyntax}, {"(a;\n&)", 4, api.ErrSyntax},
		{"if a; b; fi", 9, api.ErrSyntax}, {"if a then b", 11, api.ErrSyntax}, {"if ; then a; fi", 3, api.ErrSyntax}, {"if a; then fi", 11, api.ErrSyntax}, {"if a; then b; else c; elif d; then e; fi", 22, api.ErrSyntax}, {"if a; then b; fi c", 17, api.ErrSyntax}, {"if a; then b; done", 14, api.ErrSyntax}, {"then", 0, api.ErrSyntax},
		{"while a; done", 9, api.ErrSyntax}, {"while a; do b; fi", 15, api.ErrSyntax}, {"while do a; done", 6, api.ErrSyntax}, {"until a; do done", 12, api.ErrSyntax}, {"do a; done", 0, api.ErrSyntax},
		{"for", 3, api.ErrSyntax}, {"for\nx", 3, api.ErrSyntax}, {"for 1 in a; do b; done", 4, api.ErrSyntax}, {"for $x in a; do b; done", 4, api.ErrSyntax}, {"for 2>x", 4, api.ErrSyntax}, {"for x in a do b; done", 17, api.ErrSyntax}, {"for x a; do b; done", 6, api.ErrSyntax}, {"for x in a;; do b; done", 10, api.ErrSyntax},
		{"for x in a; ; do b; done", 12, api.ErrSyntax}, {"for x in a & do b; done", 11, api.ErrSyntax}, {"for x; ; do b; done", 7, api.ErrSyntax}, {"for x in 2>y; do b; done", 9, api.ErrSyntax}, {"for x in a\n;do b; done", 11, api.ErrSyntax}, {"for x;\n", 7, api.ErrSyntax},
		{"case", 4, api.ErrSyntax}, {"case\nx in esac", 4, api.ErrSyntax}, {"case x a", 7, api.ErrSyntax}, {"case x in", 9, api.ErrSyntax}, {"case x in a b) c;; esac", 12, api.ErrSyntax}, {"case x in a|) c;; esac", 12, api.ErrSyntax}, {"case x in a\n) c;; esac", 11, api.ErrSyntax}, {"case x in () c;; esac", 11, api.ErrSyntax},
		{"case x in (a|b", 14, api.ErrSyntax}, {"case x in a) b; fi;; esac", 16, api.ErrSyntax}, {"case x in a) ; esac", 13, api.ErrSyntax}, {"case x in a) b; c) d;; esac", 17, api.ErrSyntax}, {"case x in esac) a;; esac", 14, api.ErrSyntax}, {"case x in a) b;;", 16, api.ErrSyntax}, {"case x in ;; esac", 10, api.ErrSyntax},
		{"case 2>x in esac", 5, api.ErrSyntax}, {"case x in a) b;; ;; esac", 17, api.ErrSyntax}, {"case x; in esac", 6, api.ErrSyntax},
		{"a 10>b", 2, api.ErrSyntax}, {"10>b", 0, api.ErrSyntax}, {"a 99999999999999999999>b", 2, api.ErrSyntax}, {"a >", 3, api.ErrSyntax}, {"a > >b", 4, api.ErrSyntax}, {"a >\nb", 3, api.ErrSyntax}, {"a <;", 3, api.ErrSyntax}, {"a < 2>b", 4, api.ErrSyntax}, {"a <<\nb", 4, api.ErrSyntax}, {"a <<2>b", 4, api.ErrSyntax}, {"(a) 10>b", 4, api.ErrSyntax},
		{"a 'b", 2, api.ErrQuote}, {"a `b`", 2, api.ErrBad}, {") 'b", 2, api.ErrQuote}, {")\n'b", 0, api.ErrSyntax}, {"(a\n'b", 3, api.ErrQuote}, {"a &&\n`", 5, api.ErrBad}, {"a <<E", 4, api.ErrDoc}, {"(a <<E\nb)\n", 5, api.ErrDoc}, {"a " + rep("b", 4097), 2, api.ErrWord}, {rep("a ", 32769), 0, api.ErrText}, {"a\n'", 2, api.ErrQuote}, {"a\n)", 2, api.ErrSyntax}, {"a;\nb\n;", 5, api.ErrSyntax},
	} {
		place, err := parse.Check(c.s)
		if place != c.place || err != c.err {
			t.Errorf("Check(%.50q): %d %d, want %d %d", c.s, place, err, c.place, c.err)
		}
		if strings.Contains(c.s, "\n") {
			continue
		}
		if n, there, next, place, err := parse.First(c.s, 0); !reflect.DeepEqual(n, api.Node{}) || there || next != 0 || place != c.place || err != c.err {
			t.Errorf("First(%.50q): %s %v %d %d %d", c.s, short(n), there, next, place, err)
		}
	}
	for _, s := range []string{"", "a", "a\nb\n", "(a)\n{ b; }"} {
		if place, err := parse.Check(s); place != 0 || err != api.OK {
			t.Error(s, place, err)
		}
	}
}

// P6.1: depth, at the limit and past it.
func TestDepth(t *testing.T) {
	open, fn := rep("{ ", 24), rep("f() { ", 12)
	for _, c := range []struct {
		s     string
		place int
		err   api.Errno
	}{
		{rep("(", 24) + "a" + rep(")", 24), 0, api.OK}, {rep("(", 25) + "a" + rep(")", 25), 25, api.ErrNest}, {rep("(", 25), 25, api.ErrNest}, {rep("(", 24), 24, api.ErrSyntax}, {rep("(", 25) + ")", 25, api.ErrNest}, {rep("(", 25) + "\n\n;", 27, api.ErrNest},
		{rep("(", 25) + "\n'", 26, api.ErrQuote}, {rep("(", 25) + "! a", 25, api.ErrNest}, {rep("(", 24) + "! a" + rep(")", 24), 0, api.OK}, {rep("(", 24) + "a; b && c | d" + rep(")", 24), 0, api.OK}, {open + "a; " + rep("} ", 24), 0, api.OK}, {open + "{ a; " + rep("} ", 25), 50, api.ErrNest},
		{open + "if a; then b; fi", 51, api.ErrNest}, {open + "if", 50, api.ErrNest}, {open + "while a", 54, api.ErrNest}, {open + "for x do a", 57, api.ErrNest}, {open + "for x in a; a", 60, api.ErrSyntax}, {open + "case x in a) b", 61, api.ErrNest}, {open + "case x in a) ;; b)\nesac; " + rep("} ", 24), 0, api.OK}, {open + "case x in a)", 60, api.ErrNest},
		{open + "case x in a) )", 61, api.ErrNest}, {fn + "a; " + rep("} ", 12), 0, api.OK}, {fn + "f() a", 76, api.ErrNest}, {fn + "f() \n\n{ a; }", 78, api.ErrNest}, {fn + "f()", 75, api.ErrNest}, {fn + "f(", 74, api.ErrSyntax}, {rep("f() { ", 12) + "{ a; }", 74, api.ErrNest},
		{rep("{ ", 23) + "f() a", 50, api.ErrSyntax}, {rep("{ ", 23) + "f() { a", 52, api.ErrNest}, {rep("! (", 24) + "a" + rep(")", 24), 0, api.OK}, {rep("(a)&&", 99) + "(a)", 0, api.OK}, {rep("(", 65536), 25, api.ErrNest}, {rep("a&&", 21845) + "a", 0, api.OK},
	} {
		if place, err := parse.Check(c.s); place != c.place || err != c.err {
			t.Errorf("Check(%.80q): %d %d, want %d %d", c.s, place, err, c.place, c.err)
		}
	}
}

// writer writes trees made by chance, each in one of the ways that the forms leave.
type writer struct {
	*rand.Rand
	docs []string
}

func (w *writer) one(l ...string) string { return l[w.Intn(len(l))] }

// nl is a byte 10 with the here-documents that are waiting behind it.
func (w *writer) nl() string {
	s := w.one("\n", " \n", " # x\n") + strings.Join(w.docs, "")
	w.docs = nil
	return s + w.one("", "\n", " \n\n")
}

func (w *writer) maybe() string {
	if w.Intn(3) == 0 {
		return w.nl()
	}
	return " "
}

func (w *writer) redirs(n *api.Node, s string) string {
	for w.Intn(4) == 0 {
		r := api.Redir{Fd: w.Intn(11) - 1, Op: w.one("<", ">", ">|", ">>", "<&", ">&", "<>", "<<")}
		s += " "
		if r.Fd >= 0 {
			s += strconv.Itoa(r.Fd)
		}
		s += r.Op
		if r.Op == "<<" {
			r.Doc, r.Raw = w.one("", "x\n", "$y\n\n"), w.Intn(2) == 0
			w.docs = append(w.docs, r.Doc+"E\n")
			s += map[bool]string{true: w.one("'E'", `\E`), false: "E"}[r.Raw]
		} else {
			r.Word = w.word()
			s += w.one("", " ", "\t") + r.Word
		}
		n.Redirs = append(n.Redirs, r)
	}
	return s
}

func (w *writer) word() string {
	return w.one("a", "b=1", "'c d'", "$(e f)", "fi", "-x", "*", "\"g\nh\"", "12", "!")
}

func (w *writer) body(depth int) (api.Node, string) {
	n, s := api.Node{Kind: api.List}, w.maybe()
	for {
		k, text := w.andOr(depth)
		s += text
		sep := w.one(";", "&", "\n", ";")
		if sep == "&" {
			k = api.Node{Kind: api.Async, Kids: []api.Node{k}}
		}
		n.Kids = append(n.Kids, k)
		if sep == "\n" {
			s += w.nl()
		} else {
			s += " " + sep + w.maybe()
		}
		if w.Intn(3) > 0 {
			if len(n.Kids) == 1 && k.Kind != api.Async {
				return k, s
			}
			return n, s
		}
	}
}

func (w *writer) andOr(depth int) (api.Node, string) {
	n, s := w.pipeline(depth)
	for w.Intn(5) == 0 {
		i := w.Intn(2)
		op := " " + [2]string{"&&", "||"}[i] + w.maybe()
		k, text := w.pipeline(depth)
		n, s = api.Node{Kind: api.And + i, Kids: []api.Node{n, k}}, s+op+text
	}
	return n, s
}

func (w *writer) pipeline(depth int) (api.Node, string) {
	n, s := api.Node{Kind: api.Pipe, Not: w.Intn(6) == 0}, ""
	if n.Not {
		s = "! "
	}
	for {
		k, text := w.command(depth)
		n.Kids = append(n.Kids, k)
		s += text
		if w.Intn(5) > 0 {
			break
		}
		s += " |" + w.maybe()
	}
	if len(n.Kids) == 1 && !n.Not {
		return n.Kids[0], s
	}
	return n, s
}

func (w *writer) command(depth int) (api.Node, string) {
	if depth > 3 || w.Intn(2) == 0 {
		n := api.Node{Kind: api.Simple, Words: []string{w.one("a", "x=1", "echo", "'if'", "$f")}}
		s := n.Words[0]
		for w.Intn(2) == 0 {
			n.Words = append(n.Words, w.word())
			s += w.one(" ", "\t", " \\\n ") + n.Words[len(n.Words)-1]
		}
		return n, w.redirs(&n, s)
	}
	if w.Intn(8) == 0 {
		head := "f" + w.one("", " ") + "( )" + w.maybe()
		k, text := w.compound(depth + 1)
		return api.Node{Kind: api.Function, Name: "f", Kids: []api.Node{k}}, head + text
	}
	return w.compound(depth)
}

func (w *writer) compound(depth int) (api.Node, string) {
	n := api.Node{Kind: []int{api.Sub, api.Group, api.If, api.While, api.Until, api.For, api.Case}[w.Intn(7)]}
	s := ""
	add := func(ahead string) {
		k, text := w.body(depth + 1)
		n.Kids = append(n.Kids, k)
		s += ahead + text
	}
	switch n.Kind {
	case api.Sub:
		add("(")
		s += ")"
	case api.Group:
		add("{ ")
		s += "}"
	case api.If:
		add("if ")
		add("then ")
		for w.Intn(3) == 0 {
			add("elif ")
			add("then ")
		}
		if w.Intn(3) == 0 {
			add("else ")
		}
		s += "fi"
	case api.While, api.Until:
		add(map[int]string{api.While: "while ", api.Until: "until "}[n.Kind])
		add("do ")
		s += "done"
	case api.For:
		n.Name = "x"
		s = "for x" + w.maybe()
		if n.In = w.Intn(2) == 0; n.In {
			s += " in "
			for w.Intn(2) == 0 {
				n.Words = append(n.Words, w.word())
				s += n.Words[len(n.Words)-1] + " "
			}
			if w.Intn(2) == 0 {
				s += ";" + w.maybe()
			} else {
				s += w.nl()
			}
		} else if w.Intn(2) == 0 {
			s += ";" + w.maybe()
		}
		add("do ")
		s += "done"
	case api.Case:
		n.Name = w.word()
		s = "case " + n.Name + w.maybe() + "in" + w.maybe()
		w.items(&n, &s, depth)
		s += "esac"
	}
	return n, w.redirs(&n, s)
}

func (w *writer) items(n *api.Node, s *string, depth int) {
	for w.Intn(3) > 0 {
		*s += w.one("(", "( ", "")
		for i := 0; i == 0 || w.Intn(3) == 0; i++ {
			n.Words = append(n.Words, w.word())
			if i > 0 {
				*s += "|"
			}
			*s += n.Words[len(n.Words)-1] + w.one("", " ")
		}
		n.Words = append(n.Words, ")")
		*s += ")" + w.maybe()
		if w.Intn(3) == 0 {
			n.Kids = append(n.Kids, api.Node{Kind: api.List})
		} else {
			k, text := w.body(depth + 1)
			n.Kids = append(n.Kids, k)
			*s += text
		}
		if w.Intn(5) == 0 {
			return
		}
		*s += ";;" + w.maybe()
	}
}

// P6.1, P6.2, P6.3: texts written by chance are read as their trees; Commands gives what First gives;
// what First reads hangs on its own bytes; a text in { } is one command.
func TestWritten(t *testing.T) {
	w := &writer{Rand: rand.New(rand.NewSource(12))}
	for range 1500 {
		var trees []api.Node
		var at []int
		s := ""
		for range 1 + w.Intn(3) {
			n, text := w.andOr(0)
			switch w.Intn(3) {
			case 0:
				n, text = api.Node{Kind: api.List, Kids: []api.Node{{Kind: api.Async, Kids: []api.Node{n}}}}, text+" &"
			case 1:
				k, more := w.andOr(0)
				n, text = api.Node{Kind: api.List, Kids: []api.Node{n, k}}, text+" ;"+w.one("", " ")+more+w.one("", ";")
			}
			s += text + w.nl()
			trees, at = append(trees, n), append(at, len(s))
		}
		place := 0
		for i, want := range trees {
			n, there, next, _, err := parse.First(s, place)
			if !there || err != api.OK || !reflect.DeepEqual(n, want) {
				t.Fatalf("%s\nat %d: %s %d, want %s", s, place, short(n), err, short(want))
			}
			// The lines behind the command that hold nothing are not its own.
			if next > at[i] || strings.Trim(s[next:at[i]], " \n") != "" {
				t.Fatalf("%s\nat %d up to %d: %d", s, place, at[i], next)
			}
			alone, _, end, _, err := parse.First(") '"+s[place:next]+")'", 3)
			if err != api.OK || end != next-place+3 || !reflect.DeepEqual(alone, want) {
				t.Fatalf("%s\nat %d: alone %s %d %d", s, place, short(alone), end, err)
			}
			place = next
		}
		i := 0
		for n, err := range parse.Commands(s) {
			if err != api.OK || !reflect.DeepEqual(n, trees[i]) {
				t.Fatal(s, i, short(n), err)
			}
			i++
		}
		if place, err := parse.Check(s); i != len(trees) || place != 0 || err != api.OK {
			t.Fatal(s, i, place, err)
		}
		n, there, next, _, err := parse.First("{\n"+s+"\n}", 0)
		if !there || err != api.OK || next != len(s)+4 || n.Kind != api.Group || len(n.Kids) != 1 {
			t.Fatal(s, short(n), err)
		}
		if !reflect.DeepEqual(flat(n.Kids[0]), flat(api.Node{Kind: api.List, Kids: trees})) {
			t.Fatalf("%s\n%s", s, short(n))
		}
	}
}

// flat gives the and-ors of a body, those of lists too.
func flat(n api.Node) []api.Node {
	if n.Kind != api.List {
		return []api.Node{n}
	}
	var l []api.Node
	for _, k := range n.Kids {
		l = append(l, flat(k)...)
	}
	return l
}

// P6.1, P0: whatever the text, all ends, and what is refused stands within the text.
func TestAnyText(t *testing.T) {
	r := rand.New(rand.NewSource(13))
	pieces := []string{"a", "b ", " ", "\n", ";", "&", "|", "(", ")", "{ ", "}", "if ", "then ", "fi", "do ", "done", "for x ", "in ", "case x ", "esac", "while ", "!", ";;", "<", ">x", "2>", "<<E\nE\n", "f()", "'", "else ", "elif ", "until "}
	good := 0
	for range 100000 {
		s := ""
		for range r.Intn(12) {
			s += pieces[r.Intn(len(pieces))]
		}
		place, err := parse.Check(s)
		if err == api.OK {
			good++
		}
		if place < 0 || place > len(s) || err == api.OK && place != 0 {
			t.Fatalf("%q: %d %d", s, place, err)
		}
		var last api.Errno
		for n, e := range parse.Commands(s) {
			if last != api.OK || e != api.OK && n.Kind != 0 {
				t.Fatalf("%q: %s %d", s, short(n), e)
			}
			last = e
		}
		if last != err {
			t.Fatalf("%q: %d %d", s, last, err)
		}
	}
	if good < 1000 {
		t.Error("too few that are read:", good)
	}
	n := 0
	seq := parse.Commands("a\nb\n)")
	for range 2 {
		for range seq {
			n++
			break
		}
	}
	for range seq {
		n++
	}
	if n != 5 {
		t.Error(n)
	}
}
