package texts_test

import (
	"fmt"
	"math/rand"
	"slices"
	"strings"
	"testing"

	"shyard/api"
	"shyard/quiet"
	"shyard/texts"
)

var rep = strings.Repeat

func fresh() quiet.Kernel {
	k := quiet.New(api.Pair{Path: "f", Data: "b x\na\n\nb x"}, api.Pair{Path: "g", Data: "one\n"}, api.Pair{Path: "e"}, api.Pair{Path: "d/"}, api.Pair{Path: "no"}, api.Pair{Path: "-dash", Data: "dash"}, api.Pair{Path: "--", Data: "two"}, api.Pair{Path: "ro", Data: "ro\n"})
	for path, mode := range map[string]int{"no": 0, "ro": 256} {
		ino, _ := k.Files().Walk(1, path)
		k.Files().Chmod(ino, mode)
	}
	return k
}

type row struct {
	args   string // parted by |
	input  string
	out    string
	err    string
	status int
}

func check(t *testing.T, rows []row) {
	t.Helper()
	for _, c := range rows {
		k := fresh()
		args := strings.Split(c.args, "|")
		got := k.Run(texts.Program(args), c.input)
		if got != (quiet.Told{Out: c.out, Err: c.err, Status: c.status}) {
			t.Errorf("%q of %.40q: %+v, want %q %q %d", args, c.input, got, c.out, c.err, c.status)
		}
	}
}

// P17.1: names.
func TestKnown(t *testing.T) {
	for _, name := range strings.Fields("cat head tail wc sort uniq tr grep cut rev nl tee cmp") {
		if !texts.Known(name) {
			t.Error(name)
		}
	}
	for _, name := range []string{"", "ls", "Cat", "cat ", "echo", "sed"} {
		if texts.Known(name) {
			t.Error(name)
		}
	}
	for _, args := range [][]string{nil, {}, {""}, {"ls"}, {"CAT", "f"}} {
		var calls []api.Call
		for a := range texts.Program(args) {
			calls = append(calls, a.Call)
		}
		if len(calls) != 1 || calls[0].No != api.SysExit || calls[0].A != 127 {
			t.Error(args, calls)
		}
	}
}

// P17.1: cat, and what all that read files have in common.
func TestCat(t *testing.T) {
	check(t, []row{
		{"cat", "a\nb", "a\nb", "", 0}, {"cat|-", "in", "in", "", 0}, {"cat|f", "in", "b x\na\n\nb x", "", 0}, {"cat|g|-|g", "in\n", "one\nin\none\n", "", 0}, {"cat|-|-", "in", "in", "", 0}, {"cat|e", "", "", "", 0}, {"cat|g|none|g", "", "one\none\n", "cat: none: 2\n", 1}, {"cat|d|no|g", "", "one\n", "cat: d: 21\ncat: no: 13\n", 1}, {"cat|", "", "", "cat: : 2\n", 1}, {"cat|g/", "", "", "cat: g/: 20\n", 1},
		{"cat|--|-dash", "", "dash", "", 0}, {"cat|g|-dash", "", "one\ndash", "", 0}, {"cat|--|--", "", "two", "", 0}, {"cat|-|--", "in", "intwo", "", 0}, {"cat|--", "in", "in", "", 0}, {"cat|-x|g", "", "", "cat: usage\n", 2}, {"cat|-dash", "", "", "cat: usage\n", 2}, {"cat|-n", "", "", "cat: usage\n", 2}, {"cat|" + rep("a", 40), "", "", "cat: " + rep("a", 40) + ": 36\n", 1},
	})
}

// P17.1: head and tail.
func TestHeadAndTail(t *testing.T) {
	twelve := "1\n2\n3\n4\n5\n6\n7\n8\n9\n10\n11\n12\n"
	check(t, []row{
		{"head", twelve, "1\n2\n3\n4\n5\n6\n7\n8\n9\n10\n", "", 0}, {"tail", twelve, "3\n4\n5\n6\n7\n8\n9\n10\n11\n12\n", "", 0}, {"head|-n|2", "a\nb\nc", "a\nb\n", "", 0}, {"tail|-n|2", "a\nb\nc", "b\nc", "", 0}, {"head|-n|0|f", "", "", "", 0}, {"tail|-n|0", "a", "", "", 0}, {"head|-n|+007|f", "", "b x\na\n\nb x", "", 0}, {"tail|-n|9|f", "", "b x\na\n\nb x", "", 0},
		{"head|-n|9223372036854775807", "a\nb", "a\nb", "", 0}, {"tail|-n|9223372036854775807", "a\nb", "a\nb", "", 0}, {"head|-n|9223372036854775808", "a", "", "head: usage\n", 2}, {"head|-n|-1", "a", "", "head: usage\n", 2}, {"tail|-n|x", "a", "", "tail: usage\n", 2}, {"head|-n", "a", "", "head: usage\n", 2}, {"head|-n1", "a", "", "head: usage\n", 2}, {"head|-c|1", "a", "", "head: usage\n", 2}, {"head|f|g", "a", "", "head: usage\n", 2}, {"head|f|-n", "a", "", "head: usage\n", 2},
		{"head|-n|1|-n|2", "a\nb\nc\n", "a\nb\n", "", 0}, {"tail|-n|1|--|f", "", "b x", "", 0}, {"head|-n|1|-", "in\nx", "in\n", "", 0}, {"head|none", "", "", "head: none: 2\n", 1}, {"tail|d", "", "", "tail: d: 21\n", 1}, {"head", "", "", "", 0}, {"tail|e", "", "", "", 0},
	})
}

// P17.1: wc.
func TestWc(t *testing.T) {
	check(t, []row{
		{"wc", "a b\n", "1 2 4\n", "", 0}, {"wc", "", "0 0 0\n", "", 0}, {"wc|f", "", "3 5 10\n", "", 0}, {"wc|-l|f", "", "3\n", "", 0}, {"wc|-w|f", "", "5\n", "", 0}, {"wc|-c|f", "", "10\n", "", 0}, {"wc|-c|-l|f", "", "3 10\n", "", 0}, {"wc|-w|-w|-l|-c|f", "", "3 5 10\n", "", 0}, {"wc", " \t\v\f\ra\x00b\xff \n\nc\x08d\x0e", "2 2 16\n", "", 0}, {"wc|-w", "a\rb\tc\vd\fe\bf\x0eg", "5\n", "", 0}, {"wc|-lw", "", "", "wc: usage\n", 2}, {"wc|-x", "", "", "wc: usage\n", 2}, {"wc|f|g", "", "", "wc: usage\n", 2}, {"wc|none", "", "0 0 0\n", "wc: none: 2\n", 1}, {"wc|-l|d", "", "0\n", "wc: d: 21\n", 1},
	})
}

// P17.1: sort and uniq.
func TestSortAndUniq(t *testing.T) {
	check(t, []row{
		{"sort", "b\na\nb", "a\nb\nb\n", "", 0}, {"sort|-u", "b\na\nb\n", "a\nb\n", "", 0}, {"sort|-r", "b\na\nc\n", "c\nb\na\n", "", 0}, {"sort", "a b\na\nB\n\na\x00\n\xff\n", "\nB\na\na\x00\na b\n\xff\n", "", 0}, {"sort|-n", "10\n9\nx\n-1\n+9\n007\n", "-1\nx\n007\n+9\n9\n10\n", "", 0}, {"sort|-n|-r|-u", "1\n2\n1\n01\n", "2\n1\n01\n", "", 0}, {"sort|-n", "99999999999999999999\n1\n0\n", "0\n99999999999999999999\n1\n", "", 0}, {"sort|-r|-r", "a\nb\n", "b\na\n", "", 0},
		{"sort", "", "", "", 0}, {"sort", "\n", "\n", "", 0}, {"sort|f", "", "\na\nb x\nb x\n", "", 0}, {"sort|-nr", "", "", "sort: usage\n", 2}, {"sort|f|g", "", "", "sort: usage\n", 2}, {"sort|no", "", "", "sort: no: 13\n", 1}, {"sort|-u|-", "a\na", "a\n", "", 0},
		{"uniq", "a\na\nb\na", "a\nb\na\n", "", 0}, {"uniq|-c", "a\na\nb", "2 a\n1 b\n", "", 0}, {"uniq|-c|-c", "b\nb", "2 b\n", "", 0}, {"uniq", "", "", "", 0}, {"uniq|-c", "\n\n", "2 \n", "", 0}, {"uniq|f", "", "b x\na\n\nb x\n", "", 0}, {"uniq|-d", "", "", "uniq: usage\n", 2}, {"uniq|f|g", "", "", "uniq: usage\n", 2}, {"uniq|none", "", "", "uniq: none: 2\n", 1},
	})
}

// P17.1: tr.
func TestTr(t *testing.T) {
	check(t, []row{
		{"tr|a-c|x", "abcd", "xxxd", "", 0}, {"tr|abc|xy", "abcd\n", "xyyd\n", "", 0}, {"tr|a-c|A-C", "cabbage", "CABBAge", "", 0}, {"tr|a|xyz", "aa", "xx", "", 0}, {"tr|-d|a-c", "abcd\nc", "d\n", "", 0}, {"tr|-d|", "abc", "abc", "", 0}, {"tr||", "abc", "abc", "", 0}, {"tr||x", "abc", "abc", "", 0}, {"tr|a|", "abc", "", "tr: usage\n", 2}, {"tr|a|c-a", "abc", "", "tr: usage\n", 2}, {"tr|c-a|", "abc", "abc", "", 0}, {"tr|c-a|x", "abc", "abc", "", 0},
		{"tr|aba|xyz", "ab", "xy", "", 0}, {"tr|a-|xy", "a-", "xy", "", 0}, {"tr|-|x", "a-", "ax", "", 0}, {"tr|--|-a|xy", "-a", "xy", "", 0}, {"tr|a-b-|x-z", "ab-", "xyz", "", 0}, {"tr|+--|1-3", "+,-", "123", "", 0}, {"tr|\n|:", "a\nb\n", "a:b:", "", 0}, {"tr|\x00-\xff|x", "a\x00\xff", "xxx", "", 0}, {"tr|-d|-d|a", "ab", "b", "", 0}, {"tr|a|-b", "a", "-", "", 0},
		{"tr", "", "", "tr: usage\n", 2}, {"tr|a", "", "", "tr: usage\n", 2}, {"tr|a|b|c", "", "", "tr: usage\n", 2}, {"tr|-d", "", "", "tr: usage\n", 2}, {"tr|-d|a|b", "", "", "tr: usage\n", 2}, {"tr|-x|a|b", "", "", "tr: usage\n", 2}, {"tr|-a|b", "", "", "tr: usage\n", 2},
	})
}

// P17.1: grep and cut.
func TestGrepAndCut(t *testing.T) {
	check(t, []row{
		{"grep|x|f", "", "b x\nb x\n", "", 0}, {"grep|x", "y", "", "", 1}, {"grep|-v|x|f", "", "a\n\n", "", 0}, {"grep|-c|x|f", "", "2\n", "", 0}, {"grep|-c|-v|x|f", "", "2\n", "", 0}, {"grep|-c|z|f", "", "0\n", "", 1}, {"grep||f", "", "b x\na\n\nb x\n", "", 0}, {"grep|-v||f", "", "", "", 1}, {"grep|a\nb", "a\nb\n", "", "", 1}, {"grep|--|-v", "a\n-v\n", "-v\n", "", 0}, {"grep|-|-", "a-b\nc", "a-b\n", "", 0}, {"grep|x", "", "", "", 1}, {"grep|.", "a\n.\n", ".\n", "", 0},
		{"grep", "", "", "grep: usage\n", 2}, {"grep|-v", "", "", "grep: usage\n", 2}, {"grep|a|b|c", "", "", "grep: usage\n", 2}, {"grep|-i|a", "", "", "grep: usage\n", 2}, {"grep|x|none", "", "", "grep: none: 2\n", 2}, {"grep|-c|x|d", "", "0\n", "grep: d: 21\n", 2}, {"grep|-v|x|no", "", "", "grep: no: 13\n", 2},
		{"cut|-d|:|-f|2", "a:b:c\n", "b\n", "", 0}, {"cut|-f|2", "a\tb\nc\n", "b\nc\n", "", 0}, {"cut|-f|3|-d|:", "a:b\na:b:c:d\n::", "\nc\n\n", "", 0}, {"cut|-d|,|-d|:|-f|9|-f|1", "a,b:c", "a,b\n", "", 0}, {"cut|-f|9223372036854775807|-d| |f", "", "\na\n\n\n", "", 0}, {"cut|-d|-|-f|2", "a-b", "b\n", "", 0}, {"cut|-f|1|-d|\n", "a\nb\n", "a\nb\n", "", 0}, {"cut|-f|1", "", "", "", 0}, {"cut|-d|--|-f|1", "", "", "cut: usage\n", 2},
		{"cut", "", "", "cut: usage\n", 2}, {"cut|-d|:", "", "", "cut: usage\n", 2}, {"cut|-f|0", "", "", "cut: usage\n", 2}, {"cut|-f|x", "", "", "cut: usage\n", 2}, {"cut|-f|0|-f|1", "", "", "cut: usage\n", 2}, {"cut|-d|ab|-d|:|-f|1", "", "", "cut: usage\n", 2}, {"cut|-f|-1", "", "", "cut: usage\n", 2}, {"cut|-f", "", "", "cut: usage\n", 2}, {"cut|-d||-f|1", "", "", "cut: usage\n", 2}, {"cut|-d|ab|-f|1", "", "", "cut: usage\n", 2}, {"cut|-f|1|f|g", "", "", "cut: usage\n", 2}, {"cut|-f1", "", "", "cut: usage\n", 2}, {"cut|-f|1|none", "", "", "cut: none: 2\n", 1},
	})
}

// P17.1: rev, nl, cmp.
func TestOthers(t *testing.T) {
	check(t, []row{
		{"rev", "abc\n\nxé", "cba\n\n\xa9\xc3x\n", "", 0}, {"rev|f", "", "x b\na\n\nx b\n", "", 0}, {"rev", "", "", "", 0}, {"rev|-x", "", "", "rev: usage\n", 2}, {"rev|f|g", "", "", "rev: usage\n", 2}, {"rev|none", "", "", "rev: none: 2\n", 1}, {"nl", "a\n\nb", "1\ta\n2\t\n3\tb\n", "", 0}, {"nl|g", "", "1\tone\n", "", 0}, {"nl|f|g", "", "", "nl: usage\n", 2}, {"nl|d", "", "", "nl: d: 21\n", 1},
		{"cmp|g|g", "", "", "", 0}, {"cmp|f|g", "", "f g differ\n", "", 1}, {"cmp|g|-", "one\n", "", "", 0}, {"cmp|-|g", "one", "- g differ\n", "", 1}, {"cmp|-|-", "x", "- - differ\n", "", 1}, {"cmp|e|e", "", "", "", 0}, {"cmp|none|no", "", "", "cmp: none: 2\n", 2}, {"cmp|g|no", "", "", "cmp: no: 13\n", 2}, {"cmp|d|-", "x", "", "cmp: d: 21\n", 2}, {"cmp", "", "", "cmp: usage\n", 2}, {"cmp|f", "", "", "cmp: usage\n", 2}, {"cmp|f|g|e", "", "", "cmp: usage\n", 2}, {"cmp|-s|f|g", "", "", "cmp: usage\n", 2}, {"cmp|--|--|-dash", "", "-- -dash differ\n", "", 1},
	})
}

// P17.1: the input is read up to its end, also behind a file that can't be read; by usage not at all.
func TestInputIsRead(t *testing.T) {
	for args, want := range map[string]bool{"cmp none -": true, "cmp - none": true, "cmp none g": false, "head -n 0": true, "head -n 0 f": false, "tr a": false, "cat": true, "cat f": false, "tee": true} {
		k := fresh()
		k.Run(texts.Program(strings.Fields(args)), "input")
		read, ended := false, false
		results := slices.Collect(k.Turn.Results())
		i := 0
		for _, c := range k.Turn.Log() {
			if c.No == api.SysRead && c.A == 0 {
				read, ended = true, results[i].S == ""
			}
			i++
		}
		if read != want || ended != want {
			t.Error(args, read, ended)
		}
	}
}

// P17.1: tee, which writes files.
func TestTee(t *testing.T) {
	for _, c := range []struct {
		row
		files map[string]string
	}{
		{row{"tee", "in\n", "in\n", "", 0}, nil}, {row{"tee|n", "in\n", "in\n", "", 0}, map[string]string{"n": "in\n"}}, {row{"tee|n|g|-", "in", "in", "", 0}, map[string]string{"n": "in", "g": "in", "-": "in"}}, {row{"tee|-a|g|n", "in", "in", "", 0}, map[string]string{"g": "one\nin", "n": "in"}}, {row{"tee|-a|-a|--|-dash", "in", "in", "", 0}, map[string]string{"-dash": "dashin"}}, {row{"tee|g", "", "", "", 0}, map[string]string{"g": ""}},
		{row{"tee|d|n|ro|x/y", "in", "in", "tee: d: 21\ntee: ro: 13\ntee: x/y: 2\n", 1}, map[string]string{"n": "in", "ro": "ro\n"}}, {row{"tee|-x|g", "in", "", "tee: usage\n", 2}, map[string]string{"g": "one\n"}}, {row{"tee|g", rep("x", 65536), rep("x", 65536), "tee: g: 28\n", 1}, map[string]string{"g": ""}},
	} {
		k := fresh()
		got := k.Run(texts.Program(strings.Split(c.args, "|")), c.input)
		if got != (quiet.Told{Out: c.out, Err: c.err, Status: c.status}) {
			t.Errorf("%s: %+v", c.args, got)
		}
		for path, want := range c.files {
			if s, ok := k.File(path); s != want || !ok {
				t.Errorf("%s: %s has %.40q", c.args, path, s)
			}
		}
	}
	k := fresh()
	k.Run(texts.Program([]string{"tee", "n"}), "x")
	for e := range k.Files().Tree() {
		if e.Path == "n" && e.Mode != 438&^18 {
			t.Error(e)
		}
	}
}

// P17.1: where outputs and inputs are closed, where a file that is read is written to.
func TestStreams(t *testing.T) {
	closing := func(fd int) api.Call { return api.Call{No: api.SysClose, A: fd} }
	run := func(k quiet.Kernel, args string, calls ...api.Call) quiet.Told {
		return k.Run(texts.Program(strings.Fields(args)), "in\n", calls...)
	}
	for _, c := range []struct {
		args  string
		calls []api.Call
		want  quiet.Told
	}{
		{"cat", []api.Call{closing(1)}, quiet.Told{}}, {"cat none", []api.Call{closing(2)}, quiet.Told{Status: 1}}, {"cat", []api.Call{closing(0)}, quiet.Told{Err: "cat: -: 9\n", Status: 1}}, {"cat - g", []api.Call{closing(0)}, quiet.Told{Out: "one\n", Err: "cat: -: 9\n", Status: 1}}, {"grep x", []api.Call{closing(0)}, quiet.Told{Err: "grep: -: 9\n", Status: 2}}, {"sort", []api.Call{closing(0)}, quiet.Told{Err: "sort: -: 9\n", Status: 1}}, {"tr a b", []api.Call{closing(0)}, quiet.Told{Err: "tr: -: 9\n", Status: 1}}, {"tee n", []api.Call{closing(0)}, quiet.Told{Err: "tee: -: 9\n", Status: 1}},
		{"cat g none", []api.Call{{No: api.SysDup2, A: 1, B: 2}}, quiet.Told{Out: "one\ncat: none: 2\n", Status: 1}}, {"cat none g", []api.Call{{No: api.SysDup2, A: 1, B: 2}}, quiet.Told{Out: "cat: none: 2\none\n", Status: 1}}, {"cat g", []api.Call{{No: api.SysDup2, A: 0, B: 1}}, quiet.Told{}}, {"head -x", []api.Call{closing(0), closing(1)}, quiet.Told{Err: "head: usage\n", Status: 2}},
	} {
		if got := run(fresh(), c.args, c.calls...); got != c.want {
			t.Errorf("%s: %+v, want %+v", c.args, got, c.want)
		}
	}
	k := fresh()
	appends := []api.Call{closing(1), {No: api.SysOpen, S: "g", A: api.OpenWrite | api.OpenAppend}}
	run(k, "cat g", appends...)
	if s, _ := k.File("g"); s != "one\none\n" {
		t.Errorf("%q", s)
	}
	k = fresh()
	k.Run(texts.Program([]string{"tee", "-a", "g"}), "", closing(0), api.Call{No: api.SysOpen, S: "g", A: api.OpenRead})
	if s, _ := k.File("g"); s != "one\none\n" {
		t.Errorf("%q", s)
	}
	all := []api.Call{}
	for range 29 {
		all = append(all, api.Call{No: api.SysText})
	}
	if got := run(fresh(), "cat g", all...); got != (quiet.Told{Err: "cat: g: 24\n", Status: 1}) {
		t.Error(got)
	}
	if got := run(fresh(), "tee n", all...); got != (quiet.Told{Out: "in\n", Err: "tee: n: 24\n", Status: 1}) {
		t.Error(got)
	}
	k = fresh()
	for i := range 99 {
		k.Files().Create(1, fmt.Sprint("n", i), 420)
	}
	if got := run(k, "tee new"); got != (quiet.Told{Out: "in\n", Err: "tee: new: 23\n", Status: 1}) {
		t.Error(got)
	}
}

// P17.1: what is read by pieces, and written where there is little room: the same as at once; the
// input is read up to its end, but by usage.
func TestThroughPipes(t *testing.T) {
	for _, args := range []string{"cat", "head -n 3", "tail -n 2", "sort -r", "rev", "nl", "tr a b", "grep 1", "wc", "uniq -c", "cut -f 1", "tee n", "cmp - -", "head -x"} {
		k := fresh()
		text := rep("a line\n1\n", 60)
		want := k.Run(texts.Program(strings.Fields(args)), text)
		k = fresh()
		k.Call(1, api.Call{No: api.SysPipe}) // 3, 4
		k.Call(1, api.Call{No: api.SysPipe}) // 5, 6
		k.Call(1, api.Call{No: api.SysFork})
		for _, c := range []api.Call{{No: api.SysDup2, A: 3, B: 0}, {No: api.SysDup2, A: 6, B: 1}} {
			k.Call(2, c)
		}
		for fd := 3; fd < 7; fd++ {
			k.Call(2, api.Call{No: api.SysClose, A: fd})
		}
		k.Turn.Start(2, texts.Program(strings.Fields(args)))
		out, left := "", text
		r := rand.New(rand.NewSource(29))
		for range 5000 {
			k.Turn.Run(2, 1+r.Intn(3))
			if r.Intn(2) == 0 && left != "" {
				if x, waits := k.Call(1, api.Call{No: api.SysWrite, A: 4, S: left[:min(len(left), 1+r.Intn(20))]}); !waits {
					left = left[x.N:]
				}
			} else if x, waits := k.Call(1, api.Call{No: api.SysRead, A: 5, B: 1 + r.Intn(30)}); !waits {
				out += x.S
			}
			if left == "" {
				k.Call(1, api.Call{No: api.SysClose, A: 4})
			}
			k.Call(1, api.Call{No: api.SysClose, A: 6})
		}
		end, _ := k.Call(1, api.Call{No: api.SysWait, A: 2, B: 1})
		if out != want.Out || k.Output(2) != want.Err || end.M != want.Status || end.N != 2 {
			t.Errorf("%s: %q %q %v, want %+v", args, out, k.Output(2), end, want)
		}
		if args != "head -x" && left != "" {
			t.Error(args, "hasn't read all")
		}
	}
}

func someText(r *rand.Rand) string {
	b := make([]byte, r.Intn(40))
	for i := range b {
		b[i] = "ab1 \n\n\t\x00\xff-"[r.Intn(10)]
	}
	return string(b)
}

// P17.2, P17.3: sort says each line as often as it came, and says sorted text as it is; rev of rev is the
// text; cat, tee, head and tail say what they read.
func TestByChance(t *testing.T) {
	r := rand.New(rand.NewSource(30))
	run := func(input string, args ...string) string {
		got := quiet.New().Run(texts.Program(args), input)
		if got.Err != "" || got.Status != 0 {
			t.Fatal(args, got)
		}
		return got.Out
	}
	for range 500 {
		text := someText(r)
		ended := text
		if text != "" && !strings.HasSuffix(text, "\n") {
			ended += "\n"
		}
		l := strings.SplitAfter(ended, "\n")
		slices.Sort(l)
		sorted := run(text, "sort")
		if m := strings.SplitAfter(sorted, "\n"); !slices.Equal(sortedOf(m), l) || run(sorted, "sort") != sorted {
			t.Fatalf("%q: %q", text, sorted)
		}
		for _, options := range [][]string{{"-r"}, {"-n"}, {"-n", "-r"}, {"-u"}} {
			once := run(text, append([]string{"sort"}, options...)...)
			if again := run(once, append([]string{"sort"}, options...)...); again != once || options[0] != "-u" && !slices.Equal(sortedOf(strings.SplitAfter(once, "\n")), l) {
				t.Fatalf("%q %v: %q %q", text, options, once, again)
			}
		}
		if got := run(run(ended, "rev"), "rev"); got != ended {
			t.Fatalf("%q: %q", ended, got)
		}
		n := fmt.Sprint(strings.Count(ended, "\n") + r.Intn(3))
		for _, args := range [][]string{{"cat"}, {"tee"}, {"head", "-n", n}, {"tail", "-n", n}} {
			if got := run(text, args...); got != text {
				t.Fatalf("%v of %q: %q", args, text, got)
			}
		}
	}
}

func sortedOf(l []string) []string {
	l = slices.Clone(l)
	slices.Sort(l)
	return l
}

// R4, R7: the arguments aren't kept; the program can be gone through again, and stopped anywhere.
func TestAgain(t *testing.T) {
	args := []string{"cat", "g"}
	p := texts.Program(args)
	args[1] = "none"
	k := fresh()
	for range 2 {
		if got := k.Run(p, ""); got.Out != "one\n" {
			t.Error(got)
		}
	}
	for _, args := range [][]string{{"cat", "f", "g"}, {"tee", "a", "b"}, {"cmp", "f", "g"}, {"sort", "-x"}} {
		for stop := range 9 {
			n := 0
			for range texts.Program(args) {
				if n++; n > stop {
					break
				}
			}
		}
	}
}
