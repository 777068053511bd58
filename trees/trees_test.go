package trees_test

import (
	"math/rand"
	"slices"
	"strconv"
	"strings"
	"testing"

	"shyard/api"
	"shyard/quiet"
	"shyard/trees"
)

var rep = strings.Repeat

func fresh() quiet.Kernel {
	k := quiet.New(api.Pair{Path: "a", Data: "aa"}, api.Pair{Path: "b", Data: "bbb"}, api.Pair{Path: "d/"}, api.Pair{Path: "d/f", Data: "ff"}, api.Pair{Path: "d/.h"}, api.Pair{Path: "d/e/"}, api.Pair{Path: "d/e/g"}, api.Pair{Path: "empty/"}, api.Pair{Path: "no/"}, api.Pair{Path: "no/x"}, api.Pair{Path: "ro/"}, api.Pair{Path: "ro/x"}, api.Pair{Path: "secret"}, api.Pair{Path: "-x"})
	for path, mode := range map[string]int{"no": 0, "ro": 320, "secret": 0} {
		chmod(k, path, mode)
	}
	return k
}

func chmod(k quiet.Kernel, path string, mode int) {
	ino, _ := k.Files().Walk(1, path)
	k.Files().Chmod(ino, mode)
}

// tree tells all entries: path and bytes, one line.
func tree(k quiet.Kernel) string {
	var l []string
	for e := range k.Files().Tree() {
		if e.Kind == api.Dir {
			l = append(l, e.Path+"/")
		} else {
			l = append(l, e.Path+"="+e.Data)
		}
	}
	return strings.Join(l, " ")
}

const whole = "-x= a=aa b=bbb d/ d/.h= d/e/ d/e/g= d/f=ff empty/ no/ no/x= ro/ ro/x= secret="

type row struct {
	args      string // parted by |
	out, err  string
	status    int
	gone, new string // entries that are gone, and those that are new
}

func check(t *testing.T, rows []row) {
	t.Helper()
	for _, c := range rows {
		k := fresh()
		got := k.Run(trees.Program(strings.Split(c.args, "|")), "")
		if got != (quiet.Told{Out: c.out, Err: c.err, Status: c.status}) {
			t.Errorf("%s: %+v, want %q %q %d", c.args, got, c.out, c.err, c.status)
		}
		want := slices.DeleteFunc(strings.Fields(whole), func(e string) bool { return slices.Contains(strings.Fields(c.gone), e) })
		want = append(want, strings.Fields(c.new)...)
		now := strings.Fields(tree(k))
		slices.Sort(want)
		slices.Sort(now)
		if !slices.Equal(now, want) {
			t.Errorf("%s: %v, want %v", c.args, now, want)
		}
	}
}

// P18.1: names.
func TestKnown(t *testing.T) {
	for _, name := range strings.Fields("ls mkdir rmdir rm mv cp ln chmod pwd basename dirname") {
		if !trees.Known(name) {
			t.Error(name)
		}
	}
	for _, name := range []string{"", "cat", "LS", "cd", "rm "} {
		if trees.Known(name) {
			t.Error(name)
		}
	}
	for _, args := range [][]string{nil, {""}, {"cat"}} {
		n := 0
		for a := range trees.Program(args) {
			if n++; a.Call.No != api.SysExit || a.Call.A != 127 || n > 1 {
				t.Error(args, a.Call)
			}
		}
	}
}

// P18.1: ls.
func TestLs(t *testing.T) {
	check(t, []row{
		{args: "ls", out: "-x\na\nb\nd\nempty\nno\nro\nsecret\n"}, {args: "ls|d", out: "e\nf\n"}, {args: "ls|d/", out: "e\nf\n"}, {args: "ls|a", out: "a\n"}, {args: "ls|./d/../a", out: "./d/../a\n"}, {args: "ls|empty"}, {args: "ls|d/.h|d/e", out: "d/.h\ng\n"}, {args: "ls|a|none|no|a/|b", out: "a\nb\n", err: "ls: none: 2\nls: no: 13\nls: a/: 20\n", status: 1}, {args: "ls|ro", out: "x\n"}, {args: "ls|", err: "ls: : 2\n", status: 1}, {args: "ls|secret", out: "secret\n"},
		{args: "ls|-x", err: "ls: usage\n", status: 2}, {args: "ls|--|-x", out: "-x\n"}, {args: "ls|a|-x", out: "a\n-x\n"}, {args: "ls|-", err: "ls: -: 2\n", status: 1},
	})
}

// P18.1: mkdir, rmdir, chmod.
func TestDirectories(t *testing.T) {
	check(t, []row{
		{args: "mkdir|n|n/m/|d", err: "mkdir: d: 17\n", status: 1, new: "n/ n/m/"}, {args: "mkdir|x/y|a/y|ro/y|y", err: "mkdir: x/y: 2\nmkdir: a/y: 20\nmkdir: ro/y: 13\n", status: 1, new: "y/"}, {args: "mkdir", err: "mkdir: usage\n", status: 2}, {args: "mkdir|-p|y", err: "mkdir: usage\n", status: 2}, {args: "mkdir|--", err: "mkdir: usage\n", status: 2}, {args: "mkdir|--|-p", new: "-p/"},
		{args: "rmdir|empty", gone: "empty/"}, {args: "rmdir|d|a|none|empty/|.", err: "rmdir: d: 39\nrmdir: a: 20\nrmdir: none: 2\nrmdir: .: 22\n", status: 1, gone: "empty/"}, {args: "rmdir", err: "rmdir: usage\n", status: 2}, {args: "rmdir|-x", err: "rmdir: usage\n", status: 2},
		{args: "chmod|600", err: "chmod: usage\n", status: 2}, {args: "chmod", err: "chmod: usage\n", status: 2}, {args: "chmod|1000|a", err: "chmod: usage\n", status: 2}, {args: "chmod|8|a", err: "chmod: usage\n", status: 2}, {args: "chmod||a", err: "chmod: usage\n", status: 2}, {args: "chmod|-x|a", err: "chmod: usage\n", status: 2}, {args: "chmod|0|none|d", err: "chmod: none: 2\n", status: 1}, {args: "chmod|0000777|a", err: "chmod: usage\n", status: 2},
	})
	k := fresh()
	if got := k.Run(trees.Program([]string{"chmod", "000641", "a", "d"}), ""); got.Status != 0 {
		t.Error(got)
	}
	if got := k.Run(trees.Program([]string{"chmod", "777", "b"}), ""); got.Status != 0 {
		t.Error(got)
	}
	k.Run(trees.Program([]string{"mkdir", "n"}), "")
	modes := map[string]int{}
	for e := range k.Files().Tree() {
		modes[e.Path] = e.Mode
	}
	if modes["a"] != 417 || modes["d"] != 417 || modes["b"] != 511 || modes["n"] != 493 {
		t.Error(modes)
	}
}

// P18.1: rm.
func TestRm(t *testing.T) {
	check(t, []row{
		{args: "rm|a|d/f", gone: "a=aa d/f=ff"}, {args: "rm|d", err: "rm: d: 21\n", status: 1}, {args: "rm|-r|d|a", gone: "d/ d/.h= d/e/ d/e/g= d/f=ff a=aa"}, {args: "rm|-r|d/", gone: "d/ d/.h= d/e/ d/e/g= d/f=ff"}, {args: "rm|none|a", err: "rm: none: 2\n", status: 1, gone: "a=aa"}, {args: "rm|-f|none|a", gone: "a=aa"}, {args: "rm|-f|x/none"}, {args: "rm|-f|a/x", err: "rm: a/x: 20\n", status: 1}, {args: "rm|-f|d", err: "rm: d: 21\n", status: 1}, {args: "rm|-f|-r|none|empty", gone: "empty/"},
		{args: "rm|-r|no", err: "rm: no: 13\n", status: 1}, {args: "rm|-r|ro", err: "rm: ro/x: 13\nrm: ro: 39\n", status: 1}, {args: "rm|-r|.", err: "rm: .: 22\n", status: 1}, {args: "rm|-r|/", err: "rm: /: 22\n", status: 1}, {args: "rm|-r|-f|-r|none|no|b", err: "rm: no: 13\n", status: 1, gone: "b=bbb"}, {args: "rm|ro/x", err: "rm: ro/x: 13\n", status: 1},
		{args: "rm", err: "rm: usage\n", status: 2}, {args: "rm|-f", err: "rm: usage\n", status: 2}, {args: "rm|-rf|a", err: "rm: usage\n", status: 2}, {args: "rm|-x", err: "rm: usage\n", status: 2}, {args: "rm|--|-x", gone: "-x="}, {args: "rm|a|-f", err: "rm: -f: 2\n", status: 1, gone: "a=aa"},
	})
}

// P18.1: mv, cp, ln.
func TestTargets(t *testing.T) {
	check(t, []row{
		{args: "mv|a|n", gone: "a=aa", new: "n=aa"}, {args: "mv|a|b", gone: "a=aa b=bbb", new: "b=aa"}, {args: "mv|a|d", gone: "a=aa", new: "d/a=aa"}, {args: "mv|./d/f|empty/", gone: "d/f=ff", new: "empty/f=ff"}, {args: "mv|d|empty", gone: "d/ d/.h= d/e/ d/e/g= d/f=ff", new: "empty/d/ empty/d/.h= empty/d/e/ empty/d/e/g= empty/d/f=ff"}, {args: "mv|d/|n", gone: "d/ d/.h= d/e/ d/e/g= d/f=ff", new: "n/ n/.h= n/e/ n/e/g= n/f=ff"},
		{args: "mv|d|d/e", err: "mv: d: 22\n", status: 1}, {args: "mv|none|n", err: "mv: none: 2\n", status: 1}, {args: "mv|a|x/y", err: "mv: a: 2\n", status: 1}, {args: "mv|empty|a", err: "mv: empty: 20\n", status: 1}, {args: "mv|a|ro", err: "mv: a: 13\n", status: 1}, {args: "mv|a|a"}, {args: "mv|/|d", err: "mv: /: 22\n", status: 1}, {args: "mv", err: "mv: usage\n", status: 2}, {args: "mv|a", err: "mv: usage\n", status: 2}, {args: "mv|a|b|d", err: "mv: usage\n", status: 2}, {args: "mv|-f|a|b", err: "mv: usage\n", status: 2}, {args: "mv|--|-x|x", gone: "-x=", new: "x="},
		{args: "ln|a|n", new: "n=aa"}, {args: "ln|a|d", new: "d/a=aa"}, {args: "ln|a|b", err: "ln: a: 17\n", status: 1}, {args: "ln|d|n", err: "ln: d: 21\n", status: 1}, {args: "ln|none|n", err: "ln: none: 2\n", status: 1}, {args: "ln|a|ro", err: "ln: a: 13\n", status: 1}, {args: "ln|a", err: "ln: usage\n", status: 2}, {args: "ln|-s|a|n", err: "ln: usage\n", status: 2},
		{args: "cp|a|n", new: "n=aa"}, {args: "cp|a|d", new: "d/a=aa"}, {args: "cp|a|b", gone: "b=bbb", new: "b=aa"}, {args: "cp|a|a"}, {args: "cp|d/f|.", new: "f=ff"}, {args: "cp|d/f|empty/", new: "empty/f=ff"}, {args: "cp|none|n", err: "cp: none: 2\n", status: 1}, {args: "cp|d|n", err: "cp: d: 21\n", status: 1}, {args: "cp|secret|n", err: "cp: secret: 13\n", status: 1}, {args: "cp|a|x/n", err: "cp: x/n: 2\n", status: 1}, {args: "cp|a|ro", err: "cp: ro/a: 13\n", status: 1}, {args: "cp|d/e|empty", err: "cp: d/e: 21\n", status: 1}, {args: "cp|a|secret", err: "cp: secret: 13\n", status: 1}, {args: "cp|-|n", err: "cp: -: 2\n", status: 1},
		{args: "cp|a", err: "cp: usage\n", status: 2}, {args: "cp|a|b|d", err: "cp: usage\n", status: 2}, {args: "cp|-r|d|n", err: "cp: usage\n", status: 2}, {args: "cp|a|b/", err: "cp: b/: 20\n", status: 1}, {args: "cp|a|n/", err: "cp: n/: 21\n", status: 1},
	})
	k := fresh()
	chmod(k, "a", 511)
	k.Run(trees.Program([]string{"cp", "a", "n"}), "")
	k.Run(trees.Program([]string{"cp", "a", "b"}), "")
	for e := range k.Files().Tree() {
		if e.Path == "n" && e.Mode != 493 || e.Path == "b" && e.Mode != 420 {
			t.Error(e)
		}
	}
	k = quiet.New(api.Pair{Path: "a", Data: rep("x", 40000)}, api.Pair{Path: "b", Data: "b"})
	if got := k.Run(trees.Program([]string{"cp", "a", "b"}), ""); got != (quiet.Told{Err: "cp: b: 28\n", Status: 1}) {
		t.Error(got)
	}
}

// P18.1: what is said of paths.
func TestPaths(t *testing.T) {
	for s, want := range map[string][2]string{
		"/x/y": {"y", "/x"}, "x": {"x", "."}, "": {"", "."}, "/": {"/", "/"}, "///": {"/", "/"}, "/x": {"x", "/"}, "x/": {"x", "."}, "x/y/": {"y", "x"}, "x//y//": {"y", "x"}, "//x": {"x", "/"}, "//x//y": {"y", "//x"}, ".": {".", "."}, "..": {"..", "."}, "../a": {"a", ".."}, "a b/c d": {"c d", "a b"},
	} {
		check(t, []row{{args: "basename|" + s, out: want[0] + "\n"}, {args: "dirname|" + s, out: want[1] + "\n"}})
	}
	check(t, []row{
		{args: "basename|/x/y.txt|.txt", out: "y\n"}, {args: "basename|y.txt|y.txt", out: "y.txt\n"}, {args: "basename|y.txt|", out: "y.txt\n"}, {args: "basename|y|xy", out: "y\n"}, {args: "basename|y.txt/|txt", out: "y.\n"}, {args: "basename|/|/", out: "/\n"}, {args: "basename||", out: "\n"}, {args: "basename|a-x|-x", out: "a\n"}, {args: "basename|--|-x", out: "-x\n"},
		{args: "basename", err: "basename: usage\n", status: 2}, {args: "basename|a|b|c", err: "basename: usage\n", status: 2}, {args: "basename|-x", err: "basename: usage\n", status: 2}, {args: "dirname", err: "dirname: usage\n", status: 2}, {args: "dirname|a|b", err: "dirname: usage\n", status: 2}, {args: "pwd", out: "/\n"}, {args: "pwd|--", out: "/\n"}, {args: "pwd|x", err: "pwd: usage\n", status: 2}, {args: "pwd|-x", err: "pwd: usage\n", status: 2},
	})
	k := fresh()
	if got := k.Run(trees.Program([]string{"pwd"}), "", api.Call{No: api.SysChdir, S: "d/e"}); got != (quiet.Told{Out: "/d/e\n"}) {
		t.Error(got)
	}
	if got := k.Run(trees.Program([]string{"pwd"}), "", api.Call{No: api.SysChdir, S: "empty"}, api.Call{No: api.SysRmdir, S: "/empty"}); got != (quiet.Told{Err: "pwd: .: 2\n", Status: 1}) {
		t.Error(got)
	}
	if got := k.Run(trees.Program([]string{"ls"}), "", api.Call{No: api.SysClose, A: 1}); got != (quiet.Told{}) {
		t.Error(got)
	}
}

// P18.2: behind a cp both have the same bytes; behind a mv it is there by its new path alone; behind
// rm -r nothing is there.
func TestByChance(t *testing.T) {
	r := rand.New(rand.NewSource(31))
	done := 0
	for range 1500 {
		var pairs []api.Pair
		dirs := []string{""}
		for i := range r.Intn(9) {
			p := dirs[r.Intn(len(dirs))] + string(rune('a'+r.Intn(4)))
			if r.Intn(2) == 0 {
				dirs = append(dirs, p+"/")
				pairs = append(pairs, api.Pair{Path: p + "/"})
			} else {
				pairs = append(pairs, api.Pair{Path: p, Data: strconv.Itoa(i)})
			}
		}
		k := quiet.New(pairs...)
		path := func() string { return dirs[r.Intn(len(dirs))] + string(rune('a'+r.Intn(4))) }
		from, to := path(), path()
		was, isFile := k.File(from)
		ino, _ := k.Files().Walk(1, from)
		target := to
		if at, err := k.Files().Walk(1, to); err == api.OK {
			if _, err := k.Files().List(at); err == api.OK {
				target = to + "/" + from[strings.LastIndex(from, "/")+1:]
			}
		}
		switch r.Intn(3) {
		case 0:
			if got := k.Run(trees.Program([]string{"cp", from, to}), ""); got.Status == 0 {
				a, _ := k.File(from)
				if b, ok := k.File(target); a != was || b != was || !ok {
					t.Fatal(from, to, tree(k))
				}
				done++
			}
		case 1:
			if got := k.Run(trees.Program([]string{"mv", from, to}), ""); got.Status == 0 {
				at, err := k.Files().Walk(1, target)
				if _, err2 := k.Files().Walk(1, from); at != ino || err != api.OK || (err2 != api.ENOENT) != (from == target) {
					t.Fatal(from, to, tree(k))
				}
				if b, _ := k.File(target); isFile && b != was {
					t.Fatal(from, to, tree(k))
				}
				done++
			}
		case 2:
			before := strings.Fields(tree(k))
			got := k.Run(trees.Program([]string{"rm", "-r", from}), "")
			kept := slices.DeleteFunc(before, func(e string) bool {
				return strings.HasPrefix(e, from+"/") || strings.HasPrefix(e, from+"=")
			})
			if !slices.Equal(strings.Fields(tree(k)), kept) || (got.Status == 0) != (ino != 0) {
				t.Fatal(from, tree(k))
			}
			done++
		}
	}
	if done < 500 {
		t.Error("too few that were done:", done)
	}
}
