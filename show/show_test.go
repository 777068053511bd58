package show_test

import (
	"math/rand"
	"reflect"
	"slices"
	"strings"
	"testing"

	"shyard/api"
	"shyard/parse"
	"shyard/show"
)

func first(t *testing.T, s string) api.Node {
	n, there, next, _, err := parse.First(s, 0)
	if !there || err != api.OK || next != len(s) {
		t.Fatalf("First(%q): %v %d %d", s, there, next, err)
	}
	return n
}

// P7.1: the form of each tree.
func TestForm(t *testing.T) {
	for s, want := range map[string]string{
		"a": "a\n", "\n a  b # c\n": "a b\n", ">x a <y b": "a b >x <y\n", "2>x": "2>x\n", ">x 007<y": ">x 7<y\n", "a> x": "a >x\n", "a >&2 <&- >|x >>y <>z": "a >&2 <&- >|x >>y <>z\n",
		"a|b": "a |\nb\n", "! a": "! a\n", "! a|b|c": "! a |\nb |\nc\n", "a&&b||c": "a &&\nb ||\nc\n", "a;b": "a; b\n", "a;b|c &": "a; b |\nc &\n", "a&": "a &\n", "a&b;c&d": "a & b; c & d\n", "a&&b&c": "a &&\nb & c\n", "a;": "a\n",
		"(a)": "(\na\n)\n", "( a;b& c )>x": "(\na\nb &\nc\n) >x\n", "{ a; } 2>x <y": "{\na\n} 2>x <y\n", "(a&)": "(\na &\n)\n", "((a);b)": "(\n(\na\n)\nb\n)\n", "(a&&b|c)": "(\na &&\nb |\nc\n)\n",
		"if a; then b; fi": "if\na\nthen\nb\nfi\n", "if a;b; then c& elif d; then e; elif f\nthen g; else h;i;fi >x": "if\na\nb\nthen\nc &\nelif\nd\nthen\ne\nelif\nf\nthen\ng\nelse\nh\ni\nfi >x\n",
		"while a; do b; done": "while\na\ndo\nb\ndone\n", "until a;b; do c; done <x": "until\na\nb\ndo\nc\ndone <x\n", "for x in a 'b c'; do d; done": "for x in a 'b c'\ndo\nd\ndone\n", "for x in; do d;done": "for x in\ndo\nd\ndone\n", "for x do d;e& done >x": "for x\ndo\nd\ne &\ndone >x\n",
		"case $x in a|b) c;d;; *) esac": "case $x in\n(a|b)\nc\nd\n;;\n(*)\n;;\nesac\n", "case x in esac <y": "case x in\nesac <y\n", "case x in (a)b& esac": "case x in\n(a)\nb &\n;;\nesac\n", "f ( ) (a)>x": "f() (\na\n) >x\n", "f() { a; }": "f() {\na\n}\n", "f()\n{ a; } | b": "f() {\na\n} |\nb\n",
		"cat <<'X'\nE\nX\n": "cat <<'E1'\nE\nE1\n", "cat <<X\nE\nE1\nE3\nX": "cat <<E2\nE\nE1\nE3\nE2\n", "cat <<-X >y\n\t$a\n\tX\n": "cat <<E >y\n$a\nE\n", "a <<X 3<<'Y'|b <<Z;c\n1\nX\n2\nY\n3\nZ\n": "a <<E 3<<'E' |\n1\nE\n2\nE\nb <<E; c\n3\nE\n",
		"(a <<X\nb\nX\n) <<Y\nEE\nY\n": "(\na <<E\nb\nE\n) <<E\nEE\nE\n", "<<X\nX": "<<E\nE\n", "a <<X & b\nc\nX\n": "a <<E & b\nc\nE\n", "while a <<X\n1\nX\ndo b; done <<Y\n2\nY\n": "while\na <<E\n1\nE\ndo\nb\ndone <<E\n2\nE\n", "f() { a; } <<X\nb\nX\n": "f() {\na\n} <<E\nb\nE\n",
		"a <<X 'b\nc'\nd\nX\n": "a 'b\nc' <<E\nd\nE\n", "a\\\nb c\\\n": "a\\\nb c\\\n\n", "$(a; b) \"$(c\nd)\"": "$(a; b) \"$(c\nd)\"\n", "case x in\n(a) b <<X;;\nc\nX\nesac": "case x in\n(a)\nb <<E\nc\nE\n;;\nesac\n",
	} {
		n := first(t, s)
		got, err := show.Show(n)
		if got != want || err != api.OK {
			t.Errorf("Show of %q: %q %d, want %q", s, got, err, want)
		}
		again, err := show.Show(first(t, got))
		if again != got || err != api.OK {
			t.Errorf("Show of %q: %q %d", got, again, err)
		}
	}
}

func simple(l ...string) api.Node { return api.Node{Kind: api.Simple, Words: l} }

func of(kind int, kids ...api.Node) api.Node { return api.Node{Kind: kind, Kids: kids} }

// P7.1: what can't be shown: shapes that no text has, words that are none, what is too deep or too long.
func TestRefused(t *testing.T) {
	a, b := simple("a"), simple("b")
	deep := a
	for range api.MaxNest {
		deep = of(api.Sub, deep)
	}
	if _, err := show.Show(deep); err != api.OK {
		t.Error("at the limit:", err)
	}
	many := of(api.List)
	for range 40 {
		many = of(api.List, many, many)
	}
	chain := a
	for range 1 << 16 {
		chain = of(api.Async, chain)
	}
	lists := of(api.List)
	for range 1 << 16 {
		lists = of(api.List, lists)
	}
	lists.Kids = slices.Repeat(lists.Kids, 60000)
	for i, n := range []api.Node{
		lists, of(api.Sub, lists), {}, {Kind: 15}, {Kind: -1}, simple(), simple(""), simple("a b"), simple("a\nb"), simple("a;"), simple("if"), simple("#a"), simple("a", "'b"), simple("`"), simple("a", "\\"), simple("f", "()"), simple("\n"),
		of(api.Pipe), of(api.Pipe, a), of(api.And), of(api.And, a), of(api.And, a, b, a), of(api.And, a, of(api.And, a, b)), of(api.Or, of(api.List, a, b), a), of(api.Async, a), of(api.List), of(api.List, a), of(api.List, a, of(api.List, a, b)),
		of(api.Pipe, of(api.Pipe, a, b), a), of(api.Pipe, of(api.And, a, b), a), of(api.Sub), of(api.Sub, a, b), of(api.Sub, of(api.List)), of(api.Sub, of(api.List, a)), of(api.Sub, of(api.Async, a)), of(api.Group, of(api.List, a, of(api.List, a, b))),
		of(api.If), of(api.If, a), of(api.While, a), of(api.Until, a, b, a), of(api.For, a), {Kind: api.For, Name: "1", Kids: []api.Node{a}}, {Kind: api.For, Name: "x", Words: []string{"y"}, Kids: []api.Node{a}}, {Kind: api.For, Name: "x", In: true, Words: []string{")"}, Kids: []api.Node{a}},
		{Kind: api.Case}, {Kind: api.Case, Name: "x", Words: []string{"a"}}, {Kind: api.Case, Name: "x", Words: []string{")"}, Kids: []api.Node{a}}, {Kind: api.Case, Name: "x", Words: []string{"a", ")"}}, {Kind: api.Case, Name: "x", Words: []string{"a", ")"}, Kids: []api.Node{a, b}}, {Kind: api.Case, Name: "x", Kids: []api.Node{a}},
		{Kind: api.Function, Kids: []api.Node{of(api.Sub, a)}}, {Kind: api.Function, Name: "f"}, {Kind: api.Function, Name: "f", Kids: []api.Node{a}}, {Kind: api.Function, Name: "if", Kids: []api.Node{of(api.Sub, a)}}, {Kind: api.Function, Name: "f", Kids: []api.Node{of(api.Sub, a)}, Redirs: []api.Redir{{Fd: -1, Op: ">", Word: "x"}}},
		{Kind: api.Simple, Words: []string{"a"}, Name: "x"}, {Kind: api.Simple, Words: []string{"a"}, Not: true}, {Kind: api.Simple, Words: []string{"a"}, In: true}, {Kind: api.Simple, Words: []string{"a"}, Kids: []api.Node{b}}, {Kind: api.And, Words: []string{"x"}, Kids: []api.Node{a, b}}, {Kind: api.Sub, Not: true, Kids: []api.Node{a}},
		{Kind: api.Simple, Redirs: []api.Redir{{}}}, {Kind: api.Simple, Redirs: []api.Redir{{Fd: 10, Op: ">", Word: "x"}}}, {Kind: api.Simple, Redirs: []api.Redir{{Fd: -2, Op: ">", Word: "x"}}}, {Kind: api.Simple, Redirs: []api.Redir{{Op: ">"}}}, {Kind: api.Simple, Redirs: []api.Redir{{Op: "<<-", Word: "x", Doc: "a\n"}}},
		{Kind: api.Simple, Redirs: []api.Redir{{Op: "<<", Doc: "a"}}}, {Kind: api.Simple, Redirs: []api.Redir{{Op: "<<", Word: "x", Doc: "a\n"}}}, {Kind: api.Simple, Redirs: []api.Redir{{Op: ">", Word: "x", Doc: "a\n"}}}, {Kind: api.Simple, Redirs: []api.Redir{{Op: ">", Word: "x", Raw: true}}}, {Kind: api.Simple, Redirs: []api.Redir{{Op: "&", Word: "x"}}},
		of(api.Sub, deep), simple(strings.Repeat("a", api.MaxWord+1)), simple(strings.Split(strings.Repeat("a ", api.MaxText/2)+"a", " ")...), many, of(api.Sub, many), chain, {Kind: api.Case, Name: "x in\n(a)\n;;\nesac; case x"},
	} {
		if s, err := show.Show(n); s != "" || err != api.ErrSyntax {
			t.Errorf("%d: %q %d", i, s, err)
		}
	}
	l := strings.Split(strings.Repeat("a ", api.MaxText/2-1)+"b", " ")
	if s, err := show.Show(simple(l...)); len(s) != api.MaxText || err != api.OK {
		t.Error("at the limit:", len(s), err)
	}
	if s, err := show.Show(simple(append(l, "c")...)); s != "" || err != api.ErrSyntax {
		t.Error("past the limit:", len(s), err)
	}
}

// P7.1: Text.
func TestText(t *testing.T) {
	a, b := simple("a"), of(api.Sub, simple("b"))
	if s, err := show.Text(a, b, a); s != "a\n(\nb\n)\na\n" || err != api.OK {
		t.Errorf("%q %d", s, err)
	}
	if s, err := show.Text(); s != "" || err != api.OK {
		t.Errorf("%q %d", s, err)
	}
	if s, err := show.Text(a, api.Node{}, b); s != "" || err != api.ErrSyntax {
		t.Errorf("%q %d", s, err)
	}
}

func someText(r *rand.Rand, most int) string {
	pieces := []string{"a", "b c", " ", "\n", ";", "&", "|", "(", ")", "{ ", "}", "if a\nthen ", "fi ", "do ", "done ", "for x ", "in ", "case x in ", "esac", "while a\n", "! ", ";;", "<x", ">y ", "2>&1 ", "<<E\nx\nE\n", "<<'F' ", "\nE\nE1\nF\n", "f() ", "'", "\"$(", ")\"", "else ", "a\n", "a; ", "&& ", "|| ", "\\\n", "\\", "$", "1", "#"}
	s := ""
	for range r.Intn(most) {
		s += pieces[r.Intn(len(pieces))]
	}
	return s
}

// P7.1, P7.2: what is read can be shown; the text is read as that tree, and shown as that text.
func TestReadAndShown(t *testing.T) {
	r := rand.New(rand.NewSource(14))
	shown := 0
	for range 300000 {
		s := someText(r, 12)
		n, there, _, _, err := parse.First(s, 0)
		if err != api.OK || !there || strings.HasSuffix(s, "\\") {
			continue
		}
		got, err := show.Show(n)
		if err != api.OK {
			t.Fatalf("%q: %d", s, err)
		}
		back, there, next, _, err := parse.First(got, 0)
		if err != api.OK || !there || next != len(got) || !reflect.DeepEqual(back, n) {
			t.Fatalf("%q: %q is read as %v %d", s, got, back, err)
		}
		if again, err := show.Show(back); again != got || err != api.OK {
			t.Fatalf("%q: %q, then %q %d", s, got, again, err)
		}
		shown++
	}
	if shown < 10000 {
		t.Error("too few that are read:", shown)
	}
}

func someTree(r *rand.Rand, depth int) api.Node {
	n := api.Node{Kind: 1 + r.Intn(14)}
	if depth == 0 {
		n.Kind = api.Simple
	}
	word := func() string {
		return []string{"a", "b", "'c d'", "x", ")", "if", "e\nf", ""}[r.Intn(5+r.Intn(4))]
	}
	switch n.Kind {
	case api.Simple:
		for range 1 + r.Intn(2) {
			n.Words = append(n.Words, word())
		}
	case api.For:
		n.Name, n.In = "x", r.Intn(2) == 0
		for n.In && r.Intn(2) == 0 {
			n.Words = append(n.Words, word())
		}
	case api.Case:
		n.Name = word()
		n.Words = []string{word(), word(), ")"}[r.Intn(2):]
	case api.Function:
		n.Name = "f"
	case api.Pipe:
		n.Not = r.Intn(3) == 0
	}
	if n.Kind != api.Simple {
		for range [...]int{0, 0, 2, 2, 2, 2, 1, 1, 1, 2 + r.Intn(4), 2, 2, 1, 1, 1}[n.Kind] + r.Intn(20)/19 {
			n.Kids = append(n.Kids, someTree(r, depth-1))
		}
	}
	if r.Intn(8) == 0 {
		n.Redirs = []api.Redir{{Fd: r.Intn(3) - 1, Op: []string{"<", ">", "<<", ">&"}[r.Intn(4)]}}
		if n.Redirs[0].Op == "<<" {
			n.Redirs[0].Doc = []string{"", "x\n", "E\n", "x"}[r.Intn(4)]
			n.Redirs[0].Raw = r.Intn(2) == 0
		} else {
			n.Redirs[0].Word = word()
		}
	}
	return n
}

// P7.3: of trees made by hand, what is answered is read as that tree.
func TestByHand(t *testing.T) {
	r := rand.New(rand.NewSource(15))
	shown, deeper := 0, 0
	for range 300000 {
		n := someTree(r, r.Intn(4))
		s, err := show.Show(n)
		if err != api.OK {
			if s != "" || err != api.ErrSyntax {
				t.Fatal(n, s, err)
			}
			continue
		}
		back, there, next, _, err := parse.First(s, 0)
		if err != api.OK || !there || next != len(s) || !reflect.DeepEqual(back, n) {
			t.Fatalf("%v: %q is read as %v %d", n, s, back, err)
		}
		shown++
		if n.Kids != nil {
			deeper++
		}
	}
	if shown < 10000 || deeper < 5000 {
		t.Error("too few that can be shown:", shown, deeper)
	}
}
