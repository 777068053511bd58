package expand_test

import (
	"math/rand"
	"reflect"
	"slices"
	"strconv"
	"strings"
	"testing"

	"shyard/api"
	"shyard/expand"
	"shyard/octet"
	"shyard/pattern"
	"shyard/split"
	"shyard/word"
)

var (
	rep  = strings.Repeat
	big  = rep("b", 5000)
	huge = rep("c ", 32768)
)

// host is one whose answers are laid out; it keeps what it was asked.
type host struct {
	vars     map[string]string
	args     []string
	commands []string
	sets     []string
	asked    []string // of paths
}

func (h *host) Param(name string) (string, bool) {
	switch name {
	case "#":
		return strconv.Itoa(len(h.args)), true
	case "?", "$":
		return "7", true
	case "!":
		return "not to be told", false
	}
	if n, err := strconv.Atoi(name); err == nil {
		if n == 0 {
			return "shyard", true
		}
		if n > len(h.args) {
			return "", false
		}
		return h.args[n-1], true
	}
	v, ok := h.vars[name]
	return v, ok
}

func (h *host) Args() []string { return slices.Clone(h.args) }

func (h *host) Set(name, value string) api.Errno {
	h.sets = append(h.sets, name+"="+value)
	if name == "ro" {
		return api.ErrRead
	}
	h.vars[name] = value
	return api.OK
}

func (h *host) Vars() []api.Var {
	var l []api.Var
	for name, v := range h.vars {
		l = append(l, api.Var{Name: name, Value: v})
	}
	return l
}

func (h *host) Command(text string) (string, api.Errno) {
	h.commands = append(h.commands, text)
	switch {
	case text == "fail":
		return "", api.EAGAIN
	case strings.HasPrefix(text, "n"):
		return "\n" + text + "\n\nx\n\n\n", api.OK
	}
	return text, api.OK
}

func (h *host) Paths(p []api.Char) []string {
	text := split.Text(p)
	h.asked = append(h.asked, text)
	switch {
	case strings.HasPrefix(text, "many"):
		return strings.Split(rep("m ", 99)+"m", " ")
	case strings.HasPrefix(text, "f"):
		return []string{"f1", "f 2", "f*"}
	}
	return nil
}

func fresh() *host {
	return &host{
		vars: map[string]string{"x": "a b", "e": "", "p": "a.b.c", "star": "*", "f": "f*", "HOME": "/h *", "big": big, "huge": huge, "n": "5", "bad": "5x", "ro": "1"},
		args: []string{"p", "q r", ""},
	}
}

// P16.1: the fields of words.
func TestFields(t *testing.T) {
	for _, c := range []struct {
		s    string
		want []string
	}{
		{"", nil}, {"a", []string{"a"}}, {"''", []string{""}}, {`""`, []string{""}}, {"a' 'b", []string{"a b"}}, {"$x", []string{"a", "b"}}, {`"$x"`, []string{"a b"}}, {"$x$x", []string{"a", "ba", "b"}}, {"1$x'2'", []string{"1a", "b2"}}, {"$none", nil}, {`"$none"`, []string{""}}, {"$e", nil}, {"$e''", []string{""}}, {"a:b", []string{"a:b"}},
		{"~", []string{"/h *"}}, {"~/x", []string{"/h */x"}}, {"a~", []string{"a~"}}, {`"~"`, []string{"~"}}, {"${none:-~}", []string{"/h *"}}, {"${none:-~ b}", []string{"~", "b"}}, {"${none:-~/ b}", []string{"/h */", "b"}},
		{"${#x}", []string{"3"}}, {"${#none}", []string{"0"}}, {"${#@}", []string{"3"}}, {"${#*}", []string{"3"}}, {"$#", []string{"3"}}, {"${#}", []string{"3"}}, {"$?$$", []string{"77"}}, {"$!", nil}, {"${#!}", []string{"0"}},
		{"$1", []string{"p"}}, {"$2", []string{"q", "r"}}, {`"$2"`, []string{"q r"}}, {"$3", nil}, {`"$3"`, []string{""}}, {"$4", nil}, {"${10}", nil}, {"$10", []string{"p0"}},
		{"$@", []string{"p", "q", "r"}}, {`"$@"`, []string{"p", "q r", ""}}, {`"a$@b"`, []string{"ap", "q r", "b"}}, {"a$@b", []string{"ap", "q", "r", "b"}}, {"$*", []string{"p", "q", "r"}}, {`"$*"`, []string{"p q r "}}, {"a$*b", []string{"ap", "q", "r", "b"}}, {`"$@$@"`, []string{"p", "q r", "p", "q r", ""}},
		{"${y:-$x c}", []string{"a", "b", "c"}}, {"${y:-'$x c'}", []string{"$x c"}}, {`"${y:-$x c}"`, []string{"a b c"}}, {`${y:-"$x" c}`, []string{"a b", "c"}}, {"${x:-c}", []string{"a", "b"}}, {"${e:-c}", []string{"c"}}, {"${e-c}", nil}, {`"${e-c}"`, []string{""}}, {"${y-}", nil}, {`"${y-}"`, []string{""}}, {"1${y- }2", []string{"1", "2"}}, {"1${y-' '}2", []string{"1 2"}},
		{"${x+c d}", []string{"c", "d"}}, {"${x:+c}", []string{"c"}}, {"${e:+c}", nil}, {`"${e:+c}"`, []string{""}}, {"${e+c}", []string{"c"}}, {"${y+c}", nil}, {"${x+}", nil}, {`"${x+}"`, []string{""}}, {"${x?c}", []string{"a", "b"}}, {"${e?c}", nil}, {"${x:?c}", []string{"a", "b"}}, {"${y:-${z:-w v}}", []string{"w", "v"}}, {`"${y:-${z:-w v}}"`, []string{"w v"}},
		{"${x=c}", []string{"a", "b"}}, {"${y=c d}", []string{"c", "d"}}, {"${e=c}", nil}, {"${e:=c d}$e", []string{"c", "dc", "d"}}, {"${y='c d'}", []string{"c", "d"}}, {`"${y:=c d}"`, []string{"c d"}}, {"${y:=$@}", []string{"p", "q", "r"}},
		{"${@:-c}", []string{"p", "q", "r"}}, {`"${@:-c}"`, []string{"p q r "}}, {`"${*+c}"`, []string{"c"}}, {"${y:-$@}", []string{"p", "q", "r"}}, {`${y:-"$@"}`, []string{"p", "q r", ""}}, {`"${y:-$@}"`, []string{"p", "q r", ""}}, {`${y:-a"$@"b}`, []string{"ap", "q r", "b"}},
		{"${x#a}", []string{"b"}}, {`"${x#a}"`, []string{" b"}}, {"${p#*.}", []string{"b.c"}}, {"${p##*.}", []string{"c"}}, {"${p%.*}", []string{"a.b"}}, {"${p%%.*}", []string{"a"}}, {"${p%x}", []string{"a.b.c"}}, {"${p%'.*'}", []string{"a.b.c"}}, {`${p%".*"}`, []string{"a.b.c"}}, {`"${p%".*"}"`, []string{"a.b.c"}}, {"${none%a}", nil}, {`"${none#a}"`, []string{""}}, {"${star#$star}", []string{"*"}}, {"${star##$star}", nil}, {`${star##"$star"}`, nil}, {`${p##"$star"}`, []string{"a.b.c"}}, {"${p##$star.}", []string{"c"}}, {"${@#p}", []string{"q", "r"}}, {`"${*%%q*}"`, []string{"p "}}, {"${#%%x}", []string{"3"}},
		{"$((1+2))", []string{"3"}}, {"$((n=n+1))$n", []string{"66"}}, {"$((${n}*2))", []string{"10"}}, {"$(($1z=4))$pz", []string{"44"}}, {`"$(( 1 ? $# : 2 ))"`, []string{"3"}}, {"$(())", []string{"0"}}, {"-$((-3))", []string{"--3"}},
		{"$(a  b)", []string{"a", "b"}}, {`"$(a  b)"`, []string{"a  b"}}, {`"$(n)"`, []string{"\nn\n\nx"}}, {"$(n)", []string{"n", "x"}}, {"$()", nil}, {`"$()"`, []string{""}}, {"$($x)", []string{"$x"}},
		{"f*", []string{"f1", "f 2", "f*"}}, {"'f'*", []string{"f1", "f 2", "f*"}}, {"f'*'", []string{"f*"}}, {"g*", []string{"g*"}}, {"$f", []string{"f1", "f 2", "f*"}}, {`"$f"`, []string{"f*"}}, {`\f\*`, []string{"f*"}}, {"${y:-f*}", []string{"f1", "f 2", "f*"}}, {"f?", []string{"f1", "f 2", "f*"}}, {"f[", []string{"f1", "f 2", "f*"}}, {`"$@"f*`, []string{"p", "q r", "f1", "f 2", "f*"}},
	} {
		h := fresh()
		got, message, err := expand.Fields(h, c.s)
		if !slices.Equal(got, c.want) || message != "" || err != api.OK {
			t.Errorf("Fields(%q): %q %q %d, want %q", c.s, got, message, err, c.want)
		}
	}
}

// P16.1: IFS parts fields, and joins "$*".
func TestIFS(t *testing.T) {
	for _, c := range []struct {
		ifs, s string
		want   []string
	}{
		{":", "$x", []string{"a b"}}, {"", "$x", []string{"a b"}}, {".", "$p", []string{"a", "b", "c"}}, {":;", `"$*"`, []string{"p:q r:"}}, {"", `"$*"`, []string{"pq r"}}, {"", "$*", []string{"p", "q r"}}, {":", "$@", []string{"p", "q r"}}, {":", "${y:-a:b}", []string{"a", "b"}}, {":", "a:b", []string{"a:b"}}, {":", "${y:-'a:b'}", []string{"a:b"}}, {":", `"${@:-}"`, []string{"p q r "}}, {"5", "$((455))", []string{"4", ""}}, {"3", "$#x", []string{"", "x"}}, {":", "${IFS:=}$p", []string{"", "a.b.c"}},
	} {
		h := fresh()
		h.vars["IFS"] = c.ifs
		if got, _, err := expand.Fields(h, c.s); !slices.Equal(got, c.want) || err != api.OK {
			t.Errorf("%q: Fields(%q): %q %d, want %q", c.ifs, c.s, got, err, c.want)
		}
	}
	h := fresh()
	if got, _, _ := expand.Fields(h, "${IFS=.}$p"); !slices.Equal(got, []string{"", "a", "b", "c"}) {
		t.Error(got)
	}
}

// P16.1: without parameters.
func TestNoArgs(t *testing.T) {
	for s, want := range map[string][]string{
		"$@": nil, `"$@"`: nil, "$*": nil, `"$*"`: {""}, `"a$@"`: {"a"}, `"$@"''`: {""}, `a"$@"`: {"a"}, "${@-x}": {"x"}, `"${@:+x}"`: {""}, "${#@}": {"0"}, `${y-"$@"}`: nil, `"${y-$@}"`: {""}, `"${y-$@$@}"`: {""}, "${@=x}": nil,
	} {
		h := fresh()
		h.args = nil
		got, _, err := expand.Fields(h, s)
		if !slices.Equal(got, want) || (err != api.OK) != (s == "${@=x}") {
			t.Errorf("Fields(%q): %q %d", s, got, err)
		}
	}
}

// P16.1: One of each kind, and Pattern.
func TestOneAndPattern(t *testing.T) {
	for _, c := range []struct {
		s    string
		kind int
		want string
	}{
		{"", 0, ""}, {"$x *", 0, "a b *"}, {"'$x'\"$x\"", 0, "$xa b"}, {"'$x' \"y\"", 1, "'a b' \"y\""}, {"'$x' \\\"", 2, "'a b' \\\""}, {`\"\$x`, 1, `"$x`}, {`\$x $(a)$((1))`, 2, "$x a1"}, {"~", 0, "/h *"}, {"~", 2, "~"}, {`"$@"`, 0, "p q r "}, {"$@", 2, "p q r "}, {"$*", 1, "p q r "}, {"f*", 0, "f*"}, {"${y:-a  b}", 0, "a  b"}, {"$none", 0, ""},
		{"a\\\nb\n", 2, "ab\n"},
	} {
		if got, message, err := expand.One(fresh(), c.s, c.kind); got != c.want || message != "" || err != api.OK {
			t.Errorf("One(%q, %d): %q %q %d", c.s, c.kind, got, message, err)
		}
	}
	for s, want := range map[string]string{"": "", "a*": "a*", "'*'b": `\*b`, `"$star"$star`: `\**`, `\*`: `\*`, "${y:-'?'?}": `\??`, "~": `\/\h\ \*`, "$((1))$(*)": "1*", "${star%x}": "*"} {
		got, message, err := expand.Pattern(fresh(), s)
		if !slices.Equal(got, pattern.Of(want)) || message != "" || err != api.OK {
			t.Errorf("Pattern(%q): %v %q %d", s, got, message, err)
		}
	}
}

// P16.1: errors: the first ends all; what was set stays set.
func TestErrors(t *testing.T) {
	for _, c := range []struct {
		s       string
		message string
		err     api.Errno
		sets    string
	}{
		{"${y?no}", "no", api.ErrUnset, ""}, {"${y:?$x 'c'}", "a b c", api.ErrUnset, ""}, {"${e:?}", "", api.ErrUnset, ""}, {"${y?$@}", "p q r ", api.ErrUnset, ""}, {"a${y?$(fail)}", "", api.EAGAIN, ""}, {"${@:?}", "", api.OK, ""},
		{"${}", "", api.ErrBad, ""}, {"'a", "", api.ErrQuote, ""}, {"${x${y}", "", api.ErrQuote, ""}, {rep("a", api.MaxText+1), "", api.ErrText, ""}, {"${z=1}${}", "", api.ErrBad, ""}, {rep("$(", 25) + rep(")", 25), "", api.ErrNest, ""},
		{"$(fail)", "", api.EAGAIN, ""}, {"${z=1}$(fail)${w=2}", "", api.EAGAIN, "z=1"}, {"$((1/0))", "", api.ErrZero, ""}, {"$((1+))", "", api.ErrArith, ""}, {"$((bad))", "", api.ErrArith, ""}, {"$((z=1,2))", "", api.ErrArith, ""}, {"$((z=1/0))", "", api.ErrZero, ""}, {"$(((z=1)+(ro=2)+(w=3)))", "", api.ErrRead, "z=1 ro=2"},
		{"${ro:=2}", "", api.OK, ""}, {"${1=x}", "", api.OK, ""}, {"${4=x}", "", api.EINVAL, ""}, {"${4:=$(fail)}", "", api.EAGAIN, ""}, {"${!=x}", "", api.EINVAL, ""}, {"${3:=x}", "", api.EINVAL, ""}, {"${4=${z=1}}", "", api.EINVAL, "z=1"},
		{"${big%x}", "", api.ErrFields, ""}, {"${big#$(fail)}", "", api.ErrFields, ""}, {"${big:-x}", "", api.ErrFields, ""}, {"${p%$(fail)}", "", api.EAGAIN, ""}, {"${p%${y?m}}", "m", api.ErrUnset, ""}, {"$big", "", api.ErrFields, ""}, {"$huge", "", api.ErrFields, ""},
	} {
		h := fresh()
		if c.s == "${ro:=2}" {
			delete(h.vars, "ro")
			c.err, c.sets = api.ErrRead, "ro=2"
		}
		l, message, err := expand.Fields(h, c.s)
		if message != c.message || err != c.err || err != api.OK && len(l) != 0 || strings.Join(h.sets, " ") != c.sets {
			t.Errorf("Fields(%.40q): %q %q %d %v", c.s, l, message, err, h.sets)
		}
		if strings.HasPrefix(c.s, "$big") || strings.HasPrefix(c.s, "$huge") || strings.HasPrefix(c.s, "${big:") {
			continue
		}
		h = fresh()
		if c.s == "${ro:=2}" {
			delete(h.vars, "ro")
		}
		one, message, err := expand.One(h, c.s, 0)
		if message != c.message || err != c.err || err != api.OK && one != "" || strings.Join(h.sets, " ") != c.sets {
			t.Errorf("One(%.40q): %q %q %d %v", c.s, one, message, err, h.sets)
		}
		h = fresh()
		if c.s == "${ro:=2}" {
			delete(h.vars, "ro")
		}
		p, message, err := expand.Pattern(h, c.s)
		if message != c.message || err != c.err || err != api.OK && p != nil || strings.Join(h.sets, " ") != c.sets {
			t.Errorf("Pattern(%.40q): %v %q %d %v", c.s, p, message, err, h.sets)
		}
	}
	for _, kind := range []int{-1, 3} {
		if s, message, err := expand.One(fresh(), "`", kind); s != "" || message != "" || err != api.ErrArg {
			t.Error(s, message, err)
		}
	}
	if s, _, err := expand.One(fresh(), "$huge", 0); len(s) != 65536 || err != api.OK {
		t.Error(len(s), err)
	}
	if s, _, err := expand.One(fresh(), "$huge.", 0); s != "" || err != api.ErrFields {
		t.Error(len(s), err)
	}
	if s, _, err := expand.One(fresh(), rep("$huge", 13000), 0); s != "" || err != api.ErrFields {
		t.Error(len(s), err)
	}
	h := fresh()
	h.args = []string{huge[:32768], huge[:32767]}
	h.vars["most"], h.vars["more"] = big[:4096], big[:4097]
	for s, want := range map[string]api.Errno{"$@": 0, "$@.": api.ErrFields, "$@$1": api.ErrFields, "${most%b}": 0, "${more%b}": api.ErrFields, "${more%%x}": api.ErrFields} {
		if _, _, err := expand.One(h, s, 0); err != want {
			t.Error(s, err)
		}
	}
	for s, want := range map[string]api.Errno{"many*": 0, "${y:-many* many*}": 0, "${y:-many* many* a}": api.ErrFields, `"$@"`: 0} {
		if l, _, err := expand.Fields(fresh(), s); err != want || err != 0 && l != nil {
			t.Error(s, len(l), err)
		}
	}
	h = fresh()
	h.args = strings.Split(rep("a ", 199)+"a", " ")
	if l, _, err := expand.Fields(h, `"$@"`); len(l) != 200 || err != 0 {
		t.Error(len(l), err)
	}
	if l, _, err := expand.Fields(h, `"$@$@"`); l != nil || err != api.ErrFields {
		t.Error(len(l), err)
	}
}

// P16.1: a nil host.
func TestNil(t *testing.T) {
	l, m, err := expand.Fields(nil, "`")
	s, m2, err2 := expand.One(nil, "a", 9)
	p, m3, err3 := expand.Pattern(nil, rep("a", api.MaxText+1))
	if l != nil || s != "" || p != nil || m+m2+m3 != "" || err != api.EINVAL || err2 != api.EINVAL || err3 != api.EINVAL {
		t.Error(l, s, p, err, err2, err3)
	}
}

// P16.1: commands are asked for in the order of the parts, and only where they are needed.
func TestOrder(t *testing.T) {
	for s, want := range map[string]string{
		"$(1)a\"$(2)\"${y:-$(3)}${x:-$(4)}${x:+$(5)}${y+$(6)}$((1+$(7)))${p%$(8)}${y?$(9)}$(10)": "1 2 3 5 7 8 9", "${#x}${y=$(1)$(2)}${y=$(3)}": "1 2", "'$(1)'\\$(2": "",
	} {
		h := fresh()
		expand.Fields(h, s)
		if got := strings.Join(h.commands, " "); got != want {
			t.Errorf("%q: %s, want %s", s, got, want)
		}
	}
	h := fresh()
	expand.Fields(h, "g*'?'$star\"$star\"")
	if !slices.Equal(h.asked, []string{"g*?**"}) {
		t.Errorf("%q", h.asked)
	}
}

// P16.2: what Quote writes is one field, that text, whatever the host tells; "$@" gives just the arguments.
func TestQuoted(t *testing.T) {
	r := rand.New(rand.NewSource(26))
	for range 20000 {
		h := fresh()
		h.vars["IFS"] = "ab'\\ *"[:r.Intn(7)]
		h.args = nil
		for range r.Intn(5) {
			b := make([]byte, r.Intn(6))
			for i := range b {
				b[i] = "ab '\"\\$*?~\n`x\xff{}"[r.Intn(16)]
			}
			h.args = append(h.args, string(b))
		}
		for _, a := range h.args {
			q := octet.Quote(a)
			l, _, err := expand.Fields(h, q)
			s, _, err2 := expand.One(h, q, 0)
			p, _, err3 := expand.Pattern(h, q)
			if !slices.Equal(l, []string{a}) || s != a || split.Text(p) != a || pattern.Cut(p, a, false, false) != "" && a != "" || err+err2+err3 != 0 {
				t.Fatalf("%q: %q %q %v %d %d %d", a, l, s, p, err, err2, err3)
			}
		}
		if l, _, err := expand.Fields(h, `"$@"`); !slices.Equal(l, h.args) || err != 0 {
			t.Fatalf("%q: %q %d", h.args, l, err)
		}
		if len(h.sets)+len(h.commands)+len(h.asked) != 0 {
			t.Fatal("asked for what isn't needed")
		}
	}
}

// P16.3: where nothing unquoted is expanded Fields and One tell the same.
func TestSame(t *testing.T) {
	r := rand.New(rand.NewSource(27))
	pieces := []string{"a", "'b c'", `"$x"`, `\*`, `"$(d e)"`, `"${y:-z w}"`, `"$*"`, `"$((1+1))"`, "''", `"$none"`, `"${p##*.}"`, "=", "x:y", `"${e:=v}"`}
	for range 20000 {
		s := pieces[r.Intn(len(pieces))]
		for range r.Intn(4) {
			s += pieces[r.Intn(len(pieces))]
		}
		h, g := fresh(), fresh()
		l, _, err := expand.Fields(h, s)
		one, _, err2 := expand.One(g, s, 0)
		if err != 0 || err2 != 0 || !slices.Equal(l, []string{one}) || !reflect.DeepEqual(h, g) {
			t.Fatalf("%q: %q %q %d %d", s, l, one, err, err2)
		}
	}
}

// P0: whatever the text, all ends; where the parts are refused, so is the text.
func TestAnyText(t *testing.T) {
	r := rand.New(rand.NewSource(28))
	pieces := []string{"a", "~", "$x", "$@", "${", "}", "${y", ":-", "=", "?", "%", "##", "$(", ")", "$((", "))", "'", "\"", "\\", " ", "*", "1", "+", "`", "\n"}
	for range 100000 {
		s := ""
		for range r.Intn(9) {
			s += pieces[r.Intn(len(pieces))]
		}
		kind := r.Intn(3)
		_, perr := word.Parts(s, kind)
		text, message, err := expand.One(fresh(), s, kind)
		if perr != 0 && err != perr || err != 0 && text != "" || err != api.ErrUnset && message != "" {
			t.Fatalf("%q: %q %q %d, parts %d", s, text, message, err, perr)
		}
		if l, message, err := expand.Fields(fresh(), s); err != 0 && len(l) != 0 || err != api.ErrUnset && message != "" {
			t.Fatalf("%q: %q %q %d", s, l, message, err)
		}
	}
}
