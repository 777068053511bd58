package split_test

import (
	"math/rand"
	"reflect"
	"slices"
	"strings"
	"testing"

	"shyard/api"
	"shyard/split"
)

var rep = strings.Repeat

func fields(t *testing.T, l []api.Piece, ifs string) []string {
	t.Helper()
	f, err := split.Fields(l, ifs)
	if err != api.OK {
		t.Fatal(l, err)
	}
	texts := []string{}
	for _, x := range f {
		texts = append(texts, split.Text(x))
	}
	return texts
}

func s(text string) api.Piece { return api.Piece{Text: text, Split: true} }
func q(text string) api.Piece { return api.Piece{Text: text, Quoted: true} }
func n(text string) api.Piece { return api.Piece{Text: text} }

// P15.1: pieces as fields.
func TestFields(t *testing.T) {
	for _, c := range []struct {
		l    []api.Piece
		ifs  string
		want []string
	}{
		{nil, " ", nil}, {[]api.Piece{s("a b")}, " ", []string{"a", "b"}}, {[]api.Piece{s(" a::b: ")}, ": ", []string{"a", "", "b"}}, {[]api.Piece{q("")}, " ", []string{""}}, {[]api.Piece{s("")}, " ", nil}, {[]api.Piece{n("")}, " ", nil},
		{[]api.Piece{q("x"), s(" y"), n("z")}, " ", []string{"x", "yz"}}, {[]api.Piece{s(":")}, ":", []string{""}}, {[]api.Piece{s("::")}, ":", []string{"", ""}}, {[]api.Piece{s(":a")}, ":", []string{"", "a"}}, {[]api.Piece{s("a:")}, ":", []string{"a"}}, {[]api.Piece{s("a::")}, ":", []string{"a", ""}},
		{[]api.Piece{s("a : b")}, ": ", []string{"a", "b"}}, {[]api.Piece{s("a  :  : b")}, ": ", []string{"a", "", "b"}}, {[]api.Piece{s("a: :b")}, ": ", []string{"a", "", "b"}}, {[]api.Piece{s(" : a")}, ": ", []string{"", "a"}}, {[]api.Piece{s("a :")}, ": ", []string{"a"}}, {[]api.Piece{s("a : :")}, ": ", []string{"a", ""}},
		{[]api.Piece{s("a b")}, "", []string{"a b"}}, {[]api.Piece{s("a b:c")}, ":", []string{"a b", "c"}}, {[]api.Piece{s("\t\na\t \nb\n")}, " \t\n", []string{"a", "b"}}, {[]api.Piece{s("\x0ba\x0bb")}, "\x0b ", []string{"", "a", "b"}}, {[]api.Piece{s("a\xffb")}, "\xff", []string{"a", "b"}},
		{[]api.Piece{q(" a ")}, " ", []string{" a "}}, {[]api.Piece{n("a b")}, " ", []string{"a b"}}, {[]api.Piece{{Text: "a b", Quoted: true, Split: true}}, " ", []string{"a b"}}, {[]api.Piece{q(""), s(" "), q("")}, " ", []string{"", ""}}, {[]api.Piece{s(" "), q(""), s(" ")}, " ", []string{""}}, {[]api.Piece{s("a"), s("b c"), s("d")}, " ", []string{"ab", "cd"}},
		{[]api.Piece{s("a "), s(":b")}, ": ", []string{"a", "b"}}, {[]api.Piece{s("a "), q(""), s(":b")}, ": ", []string{"a", "", "b"}}, {[]api.Piece{s("a "), n(""), s(":b")}, ": ", []string{"a", "b"}}, {[]api.Piece{s("a "), n(":"), s(":b")}, ": ", []string{"a", ":", "b"}}, {[]api.Piece{s(" "), s("")}, " ", nil}, {[]api.Piece{q("a"), q("b")}, " ", []string{"ab"}},
		{[]api.Piece{s("a:"), q("")}, ":", []string{"a", ""}}, {[]api.Piece{q(""), s(":")}, ":", []string{""}}, {[]api.Piece{q(""), s("::")}, ":", []string{"", ""}},
	} {
		if got := fields(t, c.l, c.ifs); !slices.Equal(got, c.want) {
			t.Errorf("Fields(%v, %q): %q, want %q", c.l, c.ifs, got, c.want)
		}
	}
	f, _ := split.Fields([]api.Piece{q("a"), s("b "), n("*")}, " ")
	if !reflect.DeepEqual(f, [][]api.Char{{{B: 'a', Q: true}, {B: 'b'}}, {{B: '*'}}}) {
		t.Error(f)
	}
	if split.Text(nil) != "" || split.Text([]api.Char{{B: 'a', Q: true}, {B: 0xff}}) != "a\xff" {
		t.Error("Text")
	}
}

// P15.1: the limits.
func TestLimits(t *testing.T) {
	for _, c := range []struct {
		l   []api.Piece
		err api.Errno
	}{
		{[]api.Piece{s(rep("a ", 200))}, 0}, {[]api.Piece{s(rep("a ", 201))}, api.ErrFields}, {[]api.Piece{s(rep("a ", 200)), q("")}, api.ErrFields}, {[]api.Piece{s(rep("a ", 199)), q("")}, 0}, {[]api.Piece{s(rep(":", 200))}, 0}, {[]api.Piece{s(rep(":", 201))}, api.ErrFields}, {[]api.Piece{s(rep(":", 200) + "a")}, api.ErrFields},
		{[]api.Piece{s(rep("a", 4096))}, 0}, {[]api.Piece{s(rep("a", 4097))}, api.ErrFields}, {[]api.Piece{q(rep("a", 4096)), n("b")}, api.ErrFields}, {[]api.Piece{q(rep("a", 4096)), s(" b")}, 0}, {[]api.Piece{s(rep("a", 4096) + " " + rep("b", 4096))}, 0}, {[]api.Piece{s(rep(" ", 1<<20))}, 0},
	} {
		f, err := split.Fields(c.l, " :")
		if err != c.err || err != 0 && len(f) != 0 {
			t.Errorf("%.40v: %d", c.l, err)
		}
	}
}

func someText(r *rand.Rand) string {
	b := make([]byte, r.Intn(7))
	for i := range b {
		b[i] = "ab :;\t\n\xff"[r.Intn(8)]
	}
	return string(b)
}

// P15.2: without separators one field at most, all bytes; quoted bytes are never separators.
func TestWithout(t *testing.T) {
	r := rand.New(rand.NewSource(24))
	for range 20000 {
		var l, quoted []api.Piece
		all, any := "", false
		for range r.Intn(5) {
			p := api.Piece{Text: someText(r), Quoted: r.Intn(3) == 0, Split: r.Intn(2) == 0}
			l = append(l, p)
			all += p.Text
			any = any || p.Quoted || p.Text != ""
			p.Quoted = true
			quoted = append(quoted, p)
		}
		kept := slices.Clone(l)
		want := []string{}
		if any {
			want = []string{all}
		}
		if got := fields(t, l, ""); !slices.Equal(got, want) || !slices.Equal(l, kept) {
			t.Fatal(l, got)
		}
		if len(quoted) > 0 {
			want = []string{all}
		}
		if got := fields(t, quoted, " :;\t\n\xff"); !slices.Equal(got, want) {
			t.Fatal(quoted, got)
		}
	}
}

// P15.3: one unquoted piece by blanks; and by one hard separator: what stands between.
func TestOne(t *testing.T) {
	r := rand.New(rand.NewSource(25))
	for range 20000 {
		text := someText(r) + someText(r)
		want := slices.DeleteFunc(strings.Split(text, " "), func(s string) bool { return s == "" })
		if got := fields(t, []api.Piece{s(text)}, " "); !slices.Equal(got, want) {
			t.Fatalf("%q: %q", text, got)
		}
		cut := r.Intn(len(text) + 1)
		if got := fields(t, []api.Piece{s(text[:cut]), s(text[cut:])}, " "); !slices.Equal(got, want) {
			t.Fatalf("%q: %q", text, got)
		}
		want = strings.Split(strings.TrimSuffix(text, ":"), ":")
		if text == "" {
			want = nil
		}
		if got := fields(t, []api.Piece{s(text)}, ":"); !slices.Equal(got, want) {
			t.Fatalf("%q: %q", text, got)
		}
	}
}
