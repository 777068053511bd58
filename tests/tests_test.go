package tests_test

import (
	"fmt"
	"math/rand"
	"slices"
	"strconv"
	"strings"
	"testing"

	"shyard/api"
	"shyard/quiet"
	"shyard/tests"
)

func fresh() quiet.Kernel {
	k := quiet.New(api.Pair{Path: "f", Data: "x"}, api.Pair{Path: "e"}, api.Pair{Path: "d/"}, api.Pair{Path: "d/f"}, api.Pair{Path: "m/"}, api.Pair{Path: "no"}, api.Pair{Path: "x"}, api.Pair{Path: "shut/"})
	for path, mode := range map[string]int{"no": 0, "x": 64, "shut": 0} {
		ino, _ := k.Files().Walk(1, path)
		k.Files().Chmod(ino, mode)
	}
	return k
}

type row struct {
	args     string // parted by ~
	out, err string
	status   int
}

func check(t *testing.T, rows []row) {
	t.Helper()
	k := fresh()
	for _, c := range rows {
		args := strings.Split(c.args, "~")
		if got := k.Run(tests.Program(args), "in"); got != (quiet.Told{Out: c.out, Err: c.err, Status: c.status}) {
			t.Errorf("%q: %+v, want %q %q %d", args, got, c.out, c.err, c.status)
		}
	}
}

// P19.1: names.
func TestKnown(t *testing.T) {
	for _, name := range strings.Fields("true false echo printf test [ expr seq") {
		if !tests.Known(name) {
			t.Error(name)
		}
	}
	for _, name := range []string{"", "]", "cat", "True", "ls"} {
		if tests.Known(name) {
			t.Error(name)
		}
	}
	for _, args := range [][]string{nil, {""}, {"cat"}} {
		n := 0
		for a := range tests.Program(args) {
			if n++; a.Call.No != api.SysExit || a.Call.A != 127 || n > 1 {
				t.Error(args, a.Call)
			}
		}
	}
}

// P19.1: true, false, echo, printf.
func TestSaying(t *testing.T) {
	check(t, []row{
		{args: "true"}, {args: "true~-x~--"}, {args: "false", status: 1}, {args: "false~0", status: 1}, {args: "echo", out: "\n"}, {args: "echo~a~b", out: "a b\n"}, {args: "echo~~ ~a  b", out: "   a  b\n"}, {args: "echo~-n~a", out: "-n a\n"}, {args: "echo~--", out: "--\n"}, {args: `echo~a\nb%s`, out: "a\\nb%s\n"}, {args: "echo~\xff\x00\n", out: "\xff\x00\n\n"},
		{args: "printf", err: "printf: usage\n", status: 2}, {args: "printf~"}, {args: "printf~--", out: "--"}, {args: "printf~abc", out: "abc"}, {args: "printf~%s-%d\n~a~1~b", out: "a-1\nb-0\n"}, {args: `printf~\n\t\\%%`, out: "\n\t\\%"}, {args: `printf~\x\a%x%`, out: `\x\a%x%`}, {args: `printf~a\`, out: `a\`}, {args: `printf~\\n`, out: `\n`}, {args: "printf~%%s~a", out: "%s"}, {args: "printf~a~b~c", out: "a"}, {args: "printf~%s", out: ""}, {args: "printf~[%s%d]", out: "[0]"},
		{args: "printf~%s~a~b~c", out: "abc"}, {args: "printf~%s %s.~a~b~c", out: "a b.c ."}, {args: "printf~%d,~+5~-0~007~9223372036854775807", out: "5,0,7,9223372036854775807,"}, {args: "printf~<%d>~x~~1", out: "<0><0><1>", err: "printf: x: number\nprintf: : number\n", status: 1}, {args: "printf~%d~9223372036854775808", out: "0", err: "printf: 9223372036854775808: number\n", status: 1}, {args: `printf~%s~\n%s%%`, out: `\n%s%%`}, {args: "printf~%s%%~a~b", out: "a%b%"},
	})
	k := fresh()
	if got := k.Run(tests.Program([]string{"printf", "a%d", "x"}), "", api.Call{No: api.SysDup2, A: 1, B: 2}); got.Out != "aprintf: x: number\n0" {
		t.Errorf("%+v", got)
	}
	if got := k.Run(tests.Program([]string{"echo", "a"}), "", api.Call{No: api.SysClose, A: 1}); got != (quiet.Told{}) {
		t.Error(got)
	}
}

// P19.1: test and [.
func TestTest(t *testing.T) {
	usage := func(args string) row {
		return row{args: args, err: args[:strings.Index(args+"~", "~")] + ": usage\n", status: 2}
	}
	no := func(args string) row { return row{args: args, status: 1} }
	yes := func(args string) row { return row{args: args} }
	check(t, []row{
		no("test"), yes("test~a"), no("test~"), yes("test~!"), yes("test~-n"), yes("test~-d"), yes("test~="), yes("test~("), no("test~!~a"), yes("test~!~"), no("test~!~!"), yes("test~-n~a"), no("test~-n~"), no("test~-z~a"), yes("test~-z~"), yes("test~-n~-n"),
		yes("test~-e~f"), yes("test~-e~d"), no("test~-e~none"), no("test~-e~"), yes("test~-f~f"), no("test~-f~d"), no("test~-f~none"), yes("test~-d~d"), yes("test~-d~/"), no("test~-d~f"), no("test~-d~none"), yes("test~-s~f"), no("test~-s~e"), yes("test~-s~d"), no("test~-s~m"), yes("test~-r~f"), yes("test~-w~f"), no("test~-x~f"), no("test~-r~no"), no("test~-w~no"), no("test~-x~no"), yes("test~-x~x"), no("test~-r~x"), yes("test~-x~d"), no("test~-e~shut/f"), yes("test~-d~shut"),
		usage("test~-q~a"), usage("test~a~b"), usage("test~=~a"), yes("test~a~=~a"), no("test~a~=~b"), no("test~1~=~01"), yes("test~a~!=~b"), no("test~~!=~"), yes("test~~=~"), yes("test~1~-eq~01"), no("test~1~-eq~2"), yes("test~1~-ne~2"), no("test~1~-ne~+1"), yes("test~3~-gt~2"), no("test~2~-gt~2"), yes("test~2~-ge~2"), no("test~-9~-ge~-8"), yes("test~-9~-lt~-8"), no("test~1~-lt~1"), yes("test~1~-le~1"), no("test~2~-le~1"), usage("test~a~-eq~1"), usage("test~1~-eq~"), usage("test~1~-lt~9223372036854775808"), usage("test~a~<~b"), usage("test~a~-q~b"), usage("test~a~b~c"),
		yes("test~!~=~!"), no("test~!~=~a"), yes("test~(~=~("), yes("test~!~!~a"), no("test~!~-n~a"), yes("test~!~-z~a"), usage("test~!~-q~a"), usage("test~!~-eq~5"), yes("test~(~a~)"), no("test~(~~)"), yes("test~(~!~)"), usage("test~(~a~b"), usage("test~[~a~]"), no("test~!~a~=~a"), yes("test~!~a~=~b"), no("test~!~(~a~)"), usage("test~!~a~-eq~b"), usage("test~!~a~b~c"), usage("test~a~=~a~b"), usage("test~a~b~c~d"), usage("test~!~!~a~=~a"), usage("test~(~!~a~)"), usage("test~(~a~=~a~)"), usage("test~a~=~a~-a~b"), no("test~!~!~!~a"), yes("test~!~!~!~"),
		usage("["), usage("[~a"), usage("[~]~a"), no("[~]"), yes("[~a~]"), yes("[~]~]"), no("[~!~a~]"), yes("[~a~=~a~]"), no("[~a~=~b~]"), usage("[~a~b~]"), usage("[~a~=~a~b~]"), yes("[~!~a~=~b~]"), yes("[~(~a~)~]"), usage("[~a~=~a~] "),
	})
}

// P19.1: expr and seq.
func TestCounting(t *testing.T) {
	usage := func(args string) row {
		return row{args: args, err: args[:strings.Index(args+"~", "~")] + ": usage\n", status: 2}
	}
	check(t, []row{
		{args: "expr~a", out: "a\n"}, {args: "expr~", out: "\n", status: 1}, {args: "expr~0", out: "0\n", status: 1}, {args: "expr~00", out: "00\n"}, {args: "expr~+0", out: "+0\n"}, {args: "expr~007", out: "007\n"}, {args: "expr~2~+~3", out: "5\n"}, {args: "expr~2~-~2", out: "0\n", status: 1}, {args: "expr~-3~*~4", out: "-12\n"}, {args: "expr~-7~/~2", out: "-3\n"}, {args: "expr~-7~%~2", out: "-1\n"}, {args: "expr~9223372036854775807~+~1", out: "-9223372036854775808\n"}, {args: "expr~-9223372036854775808~/~-1", out: "-9223372036854775808\n"}, {args: "expr~-9223372036854775808~%~-1", out: "0\n", status: 1}, {args: "expr~-9223372036854775808~-~1", out: "9223372036854775807\n"},
		{args: "expr~1~=~01", out: "1\n"}, {args: "expr~a~=~a", out: "1\n"}, {args: "expr~a~=~b", out: "0\n", status: 1}, {args: "expr~a~!=~b", out: "1\n"}, {args: "expr~10~<~9", out: "0\n", status: 1}, {args: "expr~10~<~9a", out: "1\n"}, {args: "expr~2~<=~2", out: "1\n"}, {args: "expr~b~>~a", out: "1\n"}, {args: "expr~a~>=~b", out: "0\n", status: 1}, {args: "expr~-1~>~-2", out: "1\n"}, {args: "expr~~=~", out: "1\n"}, {args: "expr~~<~a", out: "1\n"}, {args: "expr~x~=~1", out: "0\n", status: 1}, {args: "expr~x~!=~1", out: "1\n"},
		usage("expr"), usage("expr~1~+"), usage("expr~1~/~0"), usage("expr~1~%~0"), usage("expr~a~+~1"), usage("expr~1~*~b"), usage("expr~1~&~1"), usage("expr~a~/~0"), usage("expr~1~+~2~+~3"), usage("expr~(~1~)"), usage("expr~--~1"), usage("expr~1~==~1"), usage("expr~1~~1"),
		{args: "seq~3", out: "1\n2\n3\n"}, {args: "seq~2~4", out: "2\n3\n4\n"}, {args: "seq~0"}, {args: "seq~-5"}, {args: "seq~4~2"}, {args: "seq~-2~1", out: "-2\n-1\n0\n1\n"}, {args: "seq~+1~01", out: "1\n"}, {args: "seq~9223372036854775806~9223372036854775807", out: "9223372036854775806\n9223372036854775807\n"}, {args: "seq~-9223372036854775808~-9223372036854775807", out: "-9223372036854775808\n-9223372036854775807\n"}, {args: "seq~9223372036854775807~-9223372036854775808"},
		usage("seq"), usage("seq~a"), usage("seq~1~"), usage("seq~1~2~3"), usage("seq~1001"), usage("seq~0~1000"), usage("seq~-9223372036854775808~9223372036854775807"), usage("seq~--~3"), usage("seq~9223372036854775808"), usage("seq~x~1"),
	})
	for _, args := range []string{"seq 1000", "seq -499 500"} {
		if got := fresh().Run(tests.Program(strings.Fields(args)), ""); strings.Count(got.Out, "\n") != 1000 || got.Status != 0 {
			t.Error(args, got.Err)
		}
	}
}

// P19.1: files are not changed; the input isn't read.
func TestNothingElse(t *testing.T) {
	k := fresh()
	was := slices.Collect(k.Files().Tree())
	k.Type("typed")
	for _, args := range []string{"true", "echo a", "printf %d x", "test -e f", "[ -s d ]", "expr 1 + 1", "seq 3", "seq x"} {
		k.Run(tests.Program(strings.Fields(args)), "", api.Call{No: api.SysDup2, A: 2, B: 0})
	}
	if !slices.Equal(was, slices.Collect(k.Files().Tree())) || k.Typed() != 5 {
		t.Error("changed")
	}
}

func run(args ...string) quiet.Told {
	return quiet.New(api.Pair{Path: "f"}).Run(tests.Program(args), "")
}

// P19.2: test of ! and something is the other status, where that isn't usage; expr A = B and test A = B
// tell the same, where both are the same text or not both numbers.
func TestBoth(t *testing.T) {
	r := rand.New(rand.NewSource(32))
	words := []string{"", "a", "1", "01", "-n", "-z", "-e", "f", "=", "!=", "-eq", "(", ")", "-d", "2", "!"}
	known := 0
	for range 20000 {
		var l []string
		for range r.Intn(4) {
			l = append(l, words[r.Intn(len(words))])
		}
		a, b := run(append([]string{"test"}, l...)...), run(append([]string{"test", "!"}, l...)...)
		if a.Status < 2 && b.Status < 2 {
			if known++; a.Status == b.Status {
				t.Fatal(l, a, b)
			}
		}
		x, y := words[r.Intn(len(words))], words[r.Intn(len(words))]
		_, err := strconv.Atoi(x)
		_, err2 := strconv.Atoi(y)
		if x == y || err != nil || err2 != nil {
			if e, q := run("expr", x, "=", y), run("test", x, "=", y); e.Status != q.Status || e.Out != fmt.Sprintln(1-q.Status) {
				t.Fatal(x, y, e, q)
			}
		}
	}
	if known < 1000 {
		t.Error("too few that are known:", known)
	}
}

// P19.3: each line of seq is one greater than the one ahead, as expr counts.
func TestSeqAndExpr(t *testing.T) {
	r := rand.New(rand.NewSource(33))
	for range 100 {
		first := r.Int63() - r.Int63()
		n := r.Intn(20)
		l := strings.Fields(run("seq", fmt.Sprint(first), fmt.Sprint(first+int64(n))).Out)
		if len(l) != n+1 || l[0] != fmt.Sprint(first) {
			t.Fatal(first, n, l)
		}
		for i := range n {
			if got := strings.TrimSuffix(run("expr", l[i], "+", "1").Out, "\n"); got != l[i+1] {
				t.Fatal(l, got)
			}
		}
	}
}
