package shell_test

import (
	"fmt"
	"iter"
	"slices"
	"strings"
	"testing"

	"shyard/api"
	"shyard/files"
	"shyard/gate"
	"shyard/shell"
	"shyard/turn"
)

var rep = strings.Repeat

func tree(f *files.FS) string {
	var l []string
	for e := range f.Tree() {
		l = append(l, fmt.Sprintf("%s:%d:%d:%.20s", e.Path, e.Kind, e.Mode, e.Data))
	}
	return strings.Join(l, " ")
}

func pairs(l ...string) []api.Pair {
	var p []api.Pair
	for i := 0; i < len(l); i += 2 {
		p = append(p, api.Pair{Path: l[i], Data: l[i+1]})
	}
	return p
}

// P21.1: what is laid, and what can't be.
func TestLay(t *testing.T) {
	long := rep("n", 33)
	deep := rep("abcdefg/", 31) + "abcdefgh"
	for _, c := range []struct {
		pairs []api.Pair
		place int
		err   api.Errno
		tree  string
	}{
		{nil, 0, 0, ""}, {pairs("/bin/a", "A", "bin/b", "B"), 0, 0, "bin:2:493: bin/a:1:493:A bin/b:1:493:B"}, {pairs("a", "1", "a", "2", "b", "3"), 1, api.ErrTwice, "a:1:493:1"}, {pairs("///x//y///z", ""), 0, 0, "x:2:493: x/y:2:493: x/y/z:1:493:"}, {pairs("a", "1", "a/b", "2"), 1, api.ErrBoot, "a:1:493:1"}, {pairs("d/a", "1", "d", "2"), 1, api.ErrTwice, "d:2:493: d/a:1:493:1"}, {pairs("d/a", "1", "//d//a", "2"), 1, api.ErrTwice, "d:2:493: d/a:1:493:1"},
		{pairs("", ""), 0, api.ErrBoot, ""}, {pairs("/", ""), 0, api.ErrBoot, ""}, {pairs("a/", ""), 0, api.ErrBoot, ""}, {pairs(".", ""), 0, api.ErrBoot, ""}, {pairs("a/../b", ""), 0, api.ErrBoot, ""}, {pairs("./a", ""), 0, api.ErrBoot, ""}, {pairs("a/..", ""), 0, api.ErrBoot, ""}, {pairs("...", "", "a", "", ".b", ""), 0, 0, "...:1:493: .b:1:493: a:1:493:"}, {pairs(long+"/..", ""), 0, api.ErrBoot, ""}, {pairs(rep("x/", 200), ""), 0, api.ErrBoot, ""},
		{pairs(long, ""), 0, api.ETOOLONG, ""}, {pairs("x/"+long+"/y", ""), 0, api.ETOOLONG, ""}, {pairs(rep("/", 256)+"a", ""), 0, api.ETOOLONG, ""}, {pairs(rep("/", 255)+"a", ""), 0, 0, "a:1:493:"}, {pairs(deep[:256], "x"), 0, 0, ""}, {pairs("a", "", "a", "", long, ""), 1, api.ErrTwice, "a:1:493:"}, {pairs("x/a", "", "x/"+long, ""), 1, api.ETOOLONG, "x:2:493: x/a:1:493:"},
		{pairs("a", rep("x", 65536), "b", ""), 0, 0, "a:1:493:" + rep("x", 20) + " b:1:493:"}, {pairs("a", rep("x", 65537)), 0, api.ENOSPC, ""}, {pairs("a", rep("x", 65535), "d/e/b", "xx", "c", ""), 1, api.ENOSPC, "a:1:493:" + rep("x", 20) + " d:2:493: d/e:2:493:"}, {pairs(long[1:]+"/"+long[1:], ""), 0, 0, long[1:] + ":2:493: " + long[1:] + "/" + long[1:] + ":1:493:"}, {pairs("a\n*", "\x00\xff"), 0, 0, "a\n*:1:493:\x00\xff"},
	} {
		f := files.New()
		place, err := shell.Lay(f, c.pairs)
		if place != c.place || err != c.err || c.tree != "" && tree(f) != c.tree || err != 0 && c.tree == "" && f.Count() != 1 {
			t.Errorf("Lay(%.60q): %d %d\n%s", c.pairs, place, err, tree(f))
		}
	}
	if place, err := shell.Lay(nil, nil); place != 0 || err != api.ErrBoot {
		t.Error(place, err)
	}
	if place, err := shell.Lay(nil, pairs("a", "")); place != 0 || err != api.ErrBoot {
		t.Error(place, err)
	}
}

// P21.1: the limits of pairs and inodes.
func TestLayLimits(t *testing.T) {
	var many []api.Pair
	for i := range 70 {
		many = append(many, api.Pair{Path: fmt.Sprint("f", i)})
	}
	f := files.New()
	if place, err := shell.Lay(f, many[:64]); place != 0 || err != 0 || f.Count() != 65 {
		t.Error(place, err, f.Count())
	}
	f = files.New()
	if place, err := shell.Lay(f, many); place != 64 || err != api.ErrBoot || f.Count() != 65 {
		t.Error(place, err, f.Count())
	}
	f = files.New()
	if place, err := shell.Lay(f, append(many[:64:64], api.Pair{})); place != 64 || err != api.ErrBoot {
		t.Error(place, err)
	}
	f = files.New()
	l := append(slices.Clone(many[:48]), pairs("a/b/c/d/e", "1", "x/y/z", "2")...)
	for i := range 45 {
		f.Create(1, fmt.Sprint("g", i), 0)
	}
	// 46 + 48 inodes, then 5: 99; one directory is left to be made.
	if place, err := shell.Lay(f, l); place != 49 || err != api.ENFILE || f.Count() != 100 {
		t.Error(place, err, f.Count())
	}
	if s := tree(f); !strings.HasSuffix(s, "x:2:493:") || strings.Contains(s, "x/y") {
		t.Error(s)
	}
	f = files.New()
	for i := range 97 {
		f.Create(1, fmt.Sprint("g", i), 0)
	}
	if place, err := shell.Lay(f, pairs("p/q/r", rep("x", 70000))); place != 0 || err != api.ENFILE || f.Count() != 100 {
		t.Error(place, err, f.Count())
	}
}

// P21.1: what may not be searched or written.
func TestLayRights(t *testing.T) {
	make := func(modes map[string]int) *files.FS {
		f := files.New()
		shell.Lay(f, pairs("d/e/a", "", "k", ""))
		for path, mode := range modes {
			ino, _ := f.Walk(1, path)
			f.Chmod(ino, mode)
		}
		return f
	}
	for _, c := range []struct {
		path, mode string
		bits       int
		err        api.Errno
	}{
		{"d/b", "d", 0, api.ErrBoot}, {"d/b", "d", 320, api.ErrBoot}, {"d/b", "d", 384, api.ErrBoot}, {"d/b", "d", 192, 0}, {"d/e/b", "d", 64, 0}, {"d/e/b", "d", 384, api.ErrBoot}, {"d/x/b", "d", 320, api.ErrBoot}, {"b", "/", 320, api.ErrBoot}, {"d/b", "/", 320, 0}, {"k", "/", 320, api.ErrTwice}, {"k", "k", 0, api.ErrTwice}, {"k/x", "k", 511, api.ErrBoot},
	} {
		f := make(map[string]int{c.mode: c.bits})
		n := f.Count()
		place, err := shell.Lay(f, []api.Pair{{Path: c.path}})
		if place != 0 || err != c.err || err != 0 && f.Count() != n {
			t.Errorf("%s, %s %o: %d %d", c.path, c.mode, c.bits, place, err)
		}
	}
}

// start gives a kernel whose first process is Init of a text.
func start(text string, args ...string) (*gate.Kernel, *turn.Turn) {
	k := gate.New()
	x := turn.New(k)
	x.Start(1, shell.Init(text, args))
	return k, x
}

func run(k *gate.Kernel, x *turn.Turn, fuel int) {
	for i := 0; ; i++ {
		if pid, _ := x.Pick(i*7, fuel); pid == 0 {
			return
		}
	}
}

func reaped(x *turn.Turn) string { return fmt.Sprint(slices.Collect(shell.Reaped(x))) }

// P21.1: Init asks for a fork, and waits till that is answered with an error.
func TestInit(t *testing.T) {
	args := []string{"a", "b c"}
	k, x := start("echo $0 $# $2; exit 3", args...)
	args[1] = "changed"
	if c, ok := x.Next(1); c.No != api.SysFork || !ok {
		t.Error(c)
	}
	x.Run(1, 1)
	if c, ok := x.Next(1); c.No != api.SysWait || c.A != -1 || c.B != 0 || !ok || !slices.Equal(x.Ready(), []int{2}) {
		t.Error(c, x.Ready())
	}
	run(k, x, 9)
	if k.Output(1) != "shyard 2 b c\n" || k.Output(2) != "" {
		t.Error(k.Output(1), k.Output(2))
	}
	if _, ok := x.Next(1); ok {
		t.Error("Init isn't over")
	}
	if got := reaped(x); got != "[{2 3}]" {
		t.Error(got)
	}
	if p := slices.Collect(k.Procs()); len(p) != 1 {
		t.Error(p)
	}
}

// P21.1: Reaped tells of the first process alone, and only what was answered with a process.
func TestReaped(t *testing.T) {
	for e := range shell.Reaped(nil) {
		t.Error(e)
	}
	k, x := start("(exit 4); exit 5 & exit 6")
	run(k, x, 3)
	want := reaped(x)
	if n := strings.Count(want, "{"); n != 2 || !strings.Contains(want, " 5}") || !strings.Contains(want, "{2 6}") || strings.Contains(want, " 4}") {
		t.Error(want)
	}
	seq := shell.Reaped(x)
	for range seq {
		break
	}
	if got := fmt.Sprint(slices.Collect(seq)); got != want {
		t.Error(got)
	}
	k = gate.New()
	x = turn.New(k)
	x.Start(1, of(api.Call{No: api.SysFork}, api.Call{No: api.SysWait, A: -1, B: 1}, api.Call{No: api.SysWait, A: 99}, api.Call{No: api.SysWait, A: 2}, api.Call{No: api.SysPid}))
	x.Run(1, 2) // the child hasn't ended yet
	run(k, x, 1)
	if got := reaped(x); got != "[{2 0}]" {
		t.Error(got)
	}
}

func of(calls ...api.Call) iter.Seq[*api.Ask] {
	return func(yield func(*api.Ask) bool) {
		for _, c := range calls {
			if !yield(&api.Ask{Call: c}) {
				return
			}
		}
	}
}

// P21.2: a shell that comes to a command that is refused has run just those that precede it,
// complains once, and ends with status 2.
func TestUpToTheBadOne(t *testing.T) {
	for bad, err := range map[string]int{")": 56, "echo x; fi": 56, "echo 'x": 53, "echo `x`": 55, "cat <<E\nx": 54, rep("(", 25): 52, "if echo x\nthen": 56, "echo " + rep("x", 5000): 51} {
		for n := range 3 {
			good := ""
			for i := range n {
				good += fmt.Sprintf("echo %d\n", i)
			}
			k, x := start(good + bad)
			run(k, x, 5)
			if k.Output(1) != strings.ReplaceAll(good, "echo ", "") || k.Output(2) != fmt.Sprintf("shyard: %d\n", err) || reaped(x) != "[{2 2}]" {
				t.Errorf("%q %q %q %s", good+bad, k.Output(1), k.Output(2), reaped(x))
			}
		}
	}
}

// P21.3: in the end Init is over, there are the three descriptions of the console alone, and each
// process that was begun is told once, but for those that others waited for.
func TestTheEnd(t *testing.T) {
	for _, text := range []string{
		"", ":", "echo a | cat | cat", "cat & cat & exit 3", "(cat & cat & :) & :", "x=$(echo a & echo b)", "seq 200 | head -n 1; { sleep & } ; no", "echo a >f; ./f; . ./f; exec cat f", "f() { f & }; f; f", "read x; echo $x & wait; cat", "exec 3>f 4<f; cat <&4 & exit 9", "echo ${x?no} | cat", "for i in 1 2 3; do (exit $i) & done",
	} {
		for fuel := range 4 {
			k, x := start(text)
			k.Type("typed\n")
			run(k, x, fuel+1)
			k.End()
			run(k, x, fuel+1)
			if _, there := x.Next(1); there || len(x.Ready()) != 0 {
				t.Fatal(text, "isn't over")
			}
			var descs []api.Desc
			for _, d := range k.Descs() {
				descs = append(descs, d)
			}
			if !slices.Equal(descs, []api.Desc{{Kind: 1, N: 0, Refs: 1}, {Kind: 1, N: 1, Refs: 1}, {Kind: 1, N: 2, Refs: 1}}) || len(slices.Collect(k.Procs())) != 1 {
				t.Fatal(text, descs)
			}
			begun, waited := map[int]int{}, map[int]int{}
			results := slices.Collect(x.Results())
			i := 0
			for pid, c := range x.Log() {
				r := results[i]
				i++
				if c.No == api.SysFork && r.Err == 0 {
					begun[r.N]++
				}
				if c.No == api.SysWait && r.Err == 0 && r.N > 0 && pid != 1 {
					waited[r.N]++
				}
			}
			for e := range shell.Reaped(x) {
				waited[e.Pid]++
			}
			if fmt.Sprint(begun) != fmt.Sprint(waited) {
				t.Fatal(text, begun, waited)
			}
		}
	}
}
