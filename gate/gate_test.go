package gate_test

import (
	"math"
	"math/rand"
	"reflect"
	"slices"
	"strings"
	"testing"

	"shyard/api"
	"shyard/gate"
	"shyard/pattern"
)

var rep = strings.Repeat

type kernel struct {
	*gate.Kernel
	t *testing.T
}

func start(t *testing.T) kernel { return kernel{gate.New(), t} }

// is asks, and holds the answer against what is wanted.
func (k kernel) is(pid int, c api.Call, want api.Result) {
	k.t.Helper()
	if k.Waits(pid, c) {
		k.t.Fatalf("%d %+v: it waits", pid, c)
	}
	r, waits := k.Call(pid, c)
	if len(r.List) == 0 {
		r.List = nil
	}
	if waits || !reflect.DeepEqual(r, want) {
		k.t.Fatalf("%d %+v: %+v %v, want %+v", pid, c, r, waits, want)
	}
	k.counts()
}

func (k kernel) n(pid int, c api.Call, n int)    { k.t.Helper(); k.is(pid, c, api.Result{N: n}) }
func (k kernel) s(pid int, c api.Call, s string) { k.t.Helper(); k.is(pid, c, api.Result{S: s}) }
func (k kernel) e(pid int, c api.Call, err api.Errno) {
	k.t.Helper()
	k.is(pid, c, api.Result{Err: err})
}

func (k kernel) waitsFor(pid int, c api.Call) {
	k.t.Helper()
	was := k.told()
	if r, waits := k.Call(pid, c); !waits || !reflect.DeepEqual(r, api.Result{}) || !k.Waits(pid, c) || k.told() != was {
		k.t.Fatalf("%d %+v: %+v %v", pid, c, r, waits)
	}
}

// counts: a description's Refs is how many descriptors name it, one at least; a pipe's ends are as
// many as descriptions are open on them; an inode that is open is held (P12.2).
func (k kernel) counts() {
	k.t.Helper()
	refs := map[int]int{}
	for p := range k.Procs() {
		l := k.Table(p.Pid)
		if p.Ended != (len(l) == 0) || len(l) != 0 && len(l) != api.MaxFds {
			k.t.Fatal(p, l)
		}
		for _, n := range l {
			if n != -1 {
				refs[n]++
			}
		}
	}
	ends := map[int][2]int{}
	for n, d := range k.Descs() {
		if d.Refs != refs[n] || d.Refs < 1 {
			k.t.Fatalf("%d: %+v, named by %d", n, d, refs[n])
		}
		delete(refs, n)
		e := ends[d.N]
		switch d.Kind {
		case api.DescRead:
			e[0]++
			ends[d.N] = e
		case api.DescWrite:
			e[1]++
			ends[d.N] = e
		case api.DescFile:
			if _, err := k.Files().Stat(d.N); err != api.OK {
				k.t.Fatal(d, err)
			}
		}
	}
	if len(refs) != 0 {
		k.t.Fatal("descriptors name what is none:", refs)
	}
	for n, e := range ends {
		if r, w, held := k.Pipe(n); r != e[0] || w != e[1] || held > api.PipeSize {
			k.t.Fatal(n, e, r, w, held)
		}
	}
}

// told is all that the kernel tells.
func (k kernel) told() string {
	var l []any
	for p := range k.Procs() {
		l = append(l, p, k.Table(p.Pid))
		for _, c := range []api.Call{{No: api.SysPath}, {No: api.SysList, S: "."}} {
			if r, _ := k.Call(p.Pid, c); !p.Ended {
				l = append(l, r)
			}
		}
	}
	for n, d := range k.Descs() {
		r, w, held := k.Pipe(d.N)
		l = append(l, n, d, r, w, held)
	}
	for e := range k.Files().Tree() {
		l = append(l, e)
	}
	return sprint(append(l, k.Typed(), k.Output(1), k.Output(2), k.Files().Count(), k.Files().Bytes()))
}

// P12.1: at the beginning.
func TestNew(t *testing.T) {
	k := start(t)
	k.counts()
	procs := slices.Collect(k.Procs())
	if !slices.Equal(procs, []api.Proc{{Pid: 1, Parent: 1}}) {
		t.Error(procs)
	}
	var descs []api.Desc
	for _, d := range k.Descs() {
		descs = append(descs, d)
	}
	if !slices.Equal(descs, []api.Desc{{Kind: 1, N: 0, Refs: 1}, {Kind: 1, N: 1, Refs: 1}, {Kind: 1, N: 2, Refs: 1}}) {
		t.Error(descs)
	}
	if k.Typed() != 0 || k.Output(0)+k.Output(1)+k.Output(2)+k.Output(3)+k.Output(-1) != "" || k.Files().Count() != 1 || k.Table(2) != nil || k.Table(0) != nil || k.Table(math.MinInt) != nil {
		t.Error("New")
	}
	k.n(1, api.Call{No: api.SysPid}, 1)
	k.s(1, api.Call{No: api.SysPath}, "/")
	k.n(1, api.Call{No: api.SysUmask, A: 512 + 63}, 18)
	k.n(1, api.Call{No: api.SysUmask, A: -1}, 63)
	k.n(1, api.Call{No: api.SysUmask, A: 18}, 511)
	k.is(1, api.Call{No: api.SysTick}, api.Result{})
	for _, no := range []int{0, 29, -1, math.MaxInt} {
		k.e(1, api.Call{No: no}, api.EINVAL)
	}
	for _, pid := range []int{0, 2, -1, math.MaxInt} {
		k.e(pid, api.Call{No: api.SysTick}, api.ESRCH)
		k.e(pid, api.Call{No: 99}, api.ESRCH)
	}
}

// P12.1: the console.
func TestConsole(t *testing.T) {
	k := start(t)
	read := func(n int) api.Call { return api.Call{No: api.SysRead, A: 0, B: n} }
	k.waitsFor(1, read(1))
	k.s(1, read(0), "")
	k.e(1, read(-1), api.EINVAL)
	k.e(1, api.Call{No: api.SysRead, A: 1, B: -1}, api.EBADF)
	k.e(1, api.Call{No: api.SysWrite, A: 0, S: "x"}, api.EBADF)
	k.e(1, api.Call{No: api.SysRead, A: 9, B: 1}, api.EBADF)
	k.e(1, api.Call{No: api.SysRead, A: math.MinInt, B: 1}, api.EBADF)
	k.Type("abc\n")
	k.Type("d")
	if k.Typed() != 5 {
		t.Error(k.Typed())
	}
	k.s(1, read(2), "ab")
	k.s(1, read(math.MaxInt), "c\nd")
	k.waitsFor(1, read(1))
	if err := k.Type(rep("x", api.MaxTyped+1)); err != api.ErrTyped || k.Typed() != 0 {
		t.Error(err)
	}
	if err := k.Type(rep("x", api.MaxTyped)); err != api.OK || k.Type("") != api.OK || k.Type("y") != api.ErrTyped {
		t.Error(err)
	}
	k.s(1, read(1), "x")
	k.End()
	if err := k.Type("y"); err != api.EINVAL {
		t.Error(err)
	}
	if err := k.Type(""); err != api.EINVAL {
		t.Error(err)
	}
	if err := k.Type("yy"); err != api.ErrTyped {
		t.Error(err)
	}
	k.s(1, read(9999), rep("x", api.MaxTyped-1))
	k.s(1, read(1), "")
	k.n(1, api.Call{No: api.SysWrite, A: 1, S: "out"}, 3)
	k.n(1, api.Call{No: api.SysWrite, A: 2, S: "e\x00"}, 2)
	k.n(1, api.Call{No: api.SysWrite, A: 1, S: ""}, 0)
	k.n(1, api.Call{No: api.SysWrite, A: 1, S: "2"}, 1)
	if k.Output(1) != "out2" || k.Output(2) != "e\x00" {
		t.Error(k.Output(1), k.Output(2))
	}
	k.e(1, api.Call{No: api.SysTruncate, A: 1, B: -1}, api.EINVAL)
	k.e(1, api.Call{No: api.SysTruncate, A: 0}, api.EBADF)
}

func open(path string, flags, mode int) api.Call {
	return api.Call{No: api.SysOpen, S: path, A: flags, B: mode}
}

func closing(fd int) api.Call          { return api.Call{No: api.SysClose, A: fd} }
func read(fd, n int) api.Call          { return api.Call{No: api.SysRead, A: fd, B: n} }
func write(fd int, s string) api.Call  { return api.Call{No: api.SysWrite, A: fd, S: s} }
func dup(fd, least int) api.Call       { return api.Call{No: api.SysDup, A: fd, B: least} }
func dup2(fd, other int) api.Call      { return api.Call{No: api.SysDup2, A: fd, B: other} }
func path(no int, s string) api.Call   { return api.Call{No: no, S: s} }
func wait(pid, without int) api.Call   { return api.Call{No: api.SysWait, A: pid, B: without} }
func exit(status int) api.Call         { return api.Call{No: api.SysExit, A: status} }
func truncating(fd, size int) api.Call { return api.Call{No: api.SysTruncate, A: fd, B: size} }

var fork = api.Call{No: api.SysFork}

// P12.1: opening files, reading and writing them.
func TestFiles(t *testing.T) {
	k := start(t)
	const rd, wr, create, only, cut, app = api.OpenRead, api.OpenWrite, api.OpenCreate, api.OpenNew, api.OpenCut, api.OpenAppend
	for _, flags := range []int{0, create, app | cut, 64, 64 | rd, -1, math.MinInt, 1<<40 | rd} {
		k.e(1, open("a", flags, 511), api.EINVAL)
	}
	k.e(1, open("a", rd, 0), api.ENOENT)
	k.e(1, open("", rd|create, 0), api.ENOENT)
	k.e(1, open("x/a", wr|create, 0), api.ENOENT)
	k.e(1, open("a/", wr|create, 0), api.EISDIR)
	k.e(1, open("/", rd, 0), api.EISDIR)
	k.e(1, open("/", rd|create|only, 0), api.EEXIST)
	k.e(1, open(rep("a", 33), rd|create, 0), api.ETOOLONG)
	k.n(1, open("a", wr|create, 511), 3)
	if e := slices.Collect(k.Files().Tree()); !slices.Equal(e, []api.Entry{{Path: "a", Kind: 1, Mode: 493}}) {
		t.Error(e)
	}
	k.e(1, read(3, -1), api.EBADF)
	k.n(1, write(3, "hello"), 5)
	k.n(1, write(3, " you"), 4)
	k.n(1, open("a", rd, 0), 4)
	k.e(1, write(4, "x"), api.EBADF)
	k.s(1, read(4, 5), "hello")
	k.s(1, read(4, 0), "")
	k.e(1, read(4, -1), api.EINVAL)
	k.s(1, read(4, math.MaxInt), " you")
	k.s(1, read(4, 1), "")
	k.n(1, open("a", rd|wr|app, 0), 5)
	k.s(1, read(5, 2), "he")
	k.n(1, write(5, "!"), 1)
	k.s(1, read(5, 9), "")
	k.s(1, read(4, 9), "!")
	k.n(1, open("a", rd|cut, 0), 6)
	k.s(1, read(6, 1), "h")
	k.n(1, write(5, ""), 0)
	k.is(1, truncating(3, 2), api.Result{})
	k.s(1, read(4, 9), "")
	k.n(1, write(3, "Z"), 1)
	k.s(1, read(6, 99), "e"+rep("\x00", 7)+"Z")
	k.n(1, open("a", wr|cut, 0), 7)
	k.is(1, path(api.SysStat, "a"), api.Result{Stat: api.Stat{Ino: 2, Kind: 1, Mode: 493, Links: 1}})
	k.e(1, truncating(4, 0), api.EBADF)
	k.e(1, truncating(3, -1), api.EINVAL)
	k.e(1, truncating(3, 65537), api.ENOSPC)
	k.e(1, truncating(9, 0), api.EBADF)
	k.is(1, truncating(3, 65536), api.Result{})
	k.e(1, write(5, "x"), api.ENOSPC)
	k.n(1, write(7, "xyz"), 3)
	k.is(1, truncating(3, 0), api.Result{})
	k.e(1, open("a", rd|create|only, 0), api.EEXIST)
	k.n(1, open("b", rd|wr|create|only, 0), 8) // it is new: what its mode forbids doesn't count
	k.n(1, write(8, "in"), 2)
	k.e(1, open("b", rd, 0), api.EACCES)
	k.e(1, open("b", wr|create|cut, 0), api.EACCES)
	k.is(1, api.Call{No: api.SysChmod, S: "b", A: 512 + 256}, api.Result{})
	k.e(1, open("b", rd|wr, 0), api.EACCES)
	k.n(1, open("b", rd|create, 0), 9)
	k.s(1, read(9, 9), "in")
	k.is(1, path(api.SysUnlink, "b"), api.Result{})
	k.n(1, write(8, "!"), 1)
	k.s(1, read(9, 9), "!")
	if k.Files().Count() != 3 {
		t.Error(k.Files().Count())
	}
	k.is(1, closing(8), api.Result{})
	k.is(1, closing(9), api.Result{})
	if k.Files().Count() != 2 {
		t.Error(k.Files().Count())
	}
	k.e(1, closing(9), api.EBADF)
	k.e(1, closing(-1), api.EBADF)
}

// P12.1: descriptors.
func TestDescriptors(t *testing.T) {
	k := start(t)
	k.n(1, api.Call{No: api.SysText, S: "ab\xffc"}, 3)
	k.n(1, dup(3, 0), 4)
	k.n(1, dup(3, 20), 20)
	k.s(1, read(4, 1), "a")
	k.s(1, read(20, 0), "")
	k.e(1, read(3, -1), api.EINVAL)
	k.s(1, read(3, math.MaxInt), "b\xffc")
	k.s(1, read(4, 1), "")
	k.e(1, write(3, "x"), api.EBADF)
	k.e(1, truncating(3, 0), api.EBADF)
	k.e(1, dup(9, -1), api.EBADF)
	k.e(1, dup(3, -1), api.EINVAL)
	k.e(1, dup(3, 32), api.EINVAL)
	k.n(1, dup2(1, 3), 3)
	k.n(1, write(3, "x"), 1)
	k.n(1, dup2(3, 3), 3)
	k.e(1, dup2(9, 9), api.EBADF)
	k.e(1, dup2(9, -1), api.EBADF)
	k.e(1, dup2(1, 32), api.EBADF)
	k.e(1, dup2(1, math.MinInt), api.EBADF)
	k.n(1, dup2(4, 20), 20) // they named the same already
	k.is(1, api.Call{No: api.SysMark, A: 3, B: -5}, api.Result{})
	k.is(1, api.Call{No: api.SysMark, A: 4, B: 1}, api.Result{})
	k.is(1, api.Call{No: api.SysMark, A: 4}, api.Result{})
	k.e(1, api.Call{No: api.SysMark, A: 9, B: 1}, api.EBADF)
	k.n(1, dup2(3, 3), 3) // nothing changes: it stays marked
	k.n(1, dup(3, 0), 5)  // a new one isn't marked
	k.is(1, api.Call{No: api.SysExec}, api.Result{})
	l := k.Table(1)
	if l[3] != -1 || l[4] == -1 || l[5] != l[1] || l[20] != l[4] {
		t.Error(l)
	}
	k.n(1, api.Call{No: api.SysText}, 3)
	for fd := 6; fd < 31; fd++ {
		if fd != 20 {
			k.n(1, dup(3, 6), fd)
		}
	}
	k.e(1, api.Call{No: api.SysPipe}, api.EMFILE) // one is free
	k.n(1, dup(3, 31), 31)
	k.e(1, dup(3, 31), api.EMFILE)
	k.e(1, dup(3, 0), api.EMFILE)
	k.e(1, api.Call{No: api.SysText}, api.EMFILE)
	k.e(1, open("none", api.OpenRead, 0), api.EMFILE)
	k.e(1, open("none", 0, 0), api.EINVAL)
	k.is(1, closing(7), api.Result{})
	k.is(1, closing(9), api.Result{})
	k.is(1, api.Call{No: api.SysPipe}, api.Result{N: 7, M: 9})
}

// P12.1: pipes, and who writes where nobody reads.
func TestPipes(t *testing.T) {
	k := start(t)
	k.is(1, api.Call{No: api.SysPipe}, api.Result{N: 3, M: 4})
	k.n(1, fork, 2)
	k.n(2, write(4, "hi"), 2)
	k.s(1, read(3, 9), "hi")
	k.waitsFor(1, read(3, 9))
	k.s(1, read(3, 0), "")
	k.e(1, read(3, -1), api.EINVAL)
	k.e(1, read(4, 1), api.EBADF)
	k.e(1, write(3, "x"), api.EBADF)
	k.e(1, truncating(4, 0), api.EINVAL)
	k.n(2, write(4, rep("x", 99)), 64)
	k.waitsFor(2, write(4, "y"))
	k.n(2, write(4, ""), 0)
	k.s(1, read(3, 1), "x")
	k.n(2, write(4, "yz"), 1)
	k.s(1, read(3, 99), rep("x", 63)+"y")
	k.is(1, closing(4), api.Result{})
	k.waitsFor(1, read(3, 1))
	k.is(2, closing(4), api.Result{})
	k.s(1, read(3, 1), "")
	k.is(2, exit(7), api.Result{})
	k.is(1, wait(-1, 0), api.Result{N: 2, M: 7})
	k.is(1, api.Call{No: api.SysPipe}, api.Result{N: 4, M: 5})
	k.n(1, fork, 3)
	k.n(1, fork, 4)
	for _, pid := range []int{1, 3, 4} {
		k.is(pid, closing(4), api.Result{})
	}
	k.e(3, write(5, "x"), api.EPIPE)
	k.e(4, write(5, ""), api.EPIPE)
	k.e(1, write(5, "x"), api.EPIPE)
	k.e(3, api.Call{No: api.SysTick}, api.ESRCH)
	if p := slices.Collect(k.Procs()); !slices.Equal(p, []api.Proc{{Pid: 1, Parent: 1}, {Pid: 3, Parent: 1, Ended: true, Status: 141}, {Pid: 4, Parent: 1, Ended: true, Status: 141}}) {
		t.Error(p)
	}
	k.is(1, wait(4, 0), api.Result{N: 4, M: 141})
	k.is(1, wait(-1, 0), api.Result{N: 3, M: 141})
}

// P12.1: processes, and who waits for whom.
func TestProcesses(t *testing.T) {
	k := start(t)
	k.e(1, exit(0), api.EPERM)
	k.e(1, wait(-1, 0), api.ECHILD)
	k.e(1, wait(-1, 1), api.ECHILD)
	k.e(1, wait(1, 0), api.ECHILD)
	k.n(1, fork, 2)
	k.n(2, fork, 3)
	k.n(3, fork, 4)
	k.n(2, fork, 5)
	k.n(2, api.Call{No: api.SysPid}, 2)
	k.waitsFor(2, wait(-1, 0))
	k.n(2, wait(-1, 1), 0)
	k.waitsFor(2, wait(5, 0))
	k.e(2, wait(4, 0), api.ECHILD)
	k.e(2, wait(0, 0), api.ECHILD)
	k.e(2, wait(-2, 1), api.ECHILD)
	k.e(2, wait(math.MinInt, 0), api.ECHILD)
	k.is(5, exit(256+9), api.Result{})
	k.is(3, exit(-1), api.Result{})
	k.waitsFor(1, wait(-1, 0))
	k.is(2, wait(5, 1), api.Result{N: 5, M: 9})
	k.e(2, wait(5, 0), api.ECHILD)
	k.is(2, wait(-1, 0), api.Result{N: 3, M: 255})
	k.e(2, wait(-1, 0), api.ECHILD)
	k.n(2, fork, 6)
	k.n(2, fork, 7)
	k.is(7, exit(1), api.Result{})
	k.is(2, exit(0), api.Result{})
	k.is(6, exit(2), api.Result{})
	k.is(4, exit(3), api.Result{})
	k.e(6, api.Call{No: api.SysTick}, api.ESRCH)
	for _, want := range [][2]int{{2, 0}, {4, 3}, {6, 2}, {7, 1}} {
		k.is(1, wait(-1, 0), api.Result{N: want[0], M: want[1]})
	}
	k.e(1, wait(-1, 0), api.ECHILD)
	for i := range api.MaxProcs - 1 {
		k.n(1, fork, 8+i)
	}
	k.e(1, fork, api.EAGAIN)
	k.is(8, exit(0), api.Result{})
	k.e(1, fork, api.EAGAIN) // those that have ended count
	k.is(1, wait(8, 0), api.Result{N: 8})
	k.n(1, fork, 31)
}

// P12.1: what a process has of its own.
func TestOwn(t *testing.T) {
	k := start(t)
	k.is(1, api.Call{No: api.SysMkdir, S: "d", A: 511}, api.Result{})
	k.is(1, path(api.SysStat, "d"), api.Result{Stat: api.Stat{Ino: 2, Kind: 2, Mode: 493, Links: 1}})
	k.is(1, path(api.SysChdir, "d"), api.Result{})
	k.n(1, api.Call{No: api.SysUmask, A: 7}, 18)
	k.n(1, fork, 2)
	k.s(2, api.Call{No: api.SysPath}, "/d")
	k.n(2, api.Call{No: api.SysUmask, A: 0}, 7)
	k.n(1, api.Call{No: api.SysUmask, A: 0}, 7)
	k.is(2, path(api.SysChdir, ".."), api.Result{})
	k.s(1, api.Call{No: api.SysPath}, "/d")
	k.n(1, open("f", api.OpenWrite|api.OpenCreate, 420), 3)
	k.e(2, write(3, "x"), api.EBADF)
	k.e(2, path(api.SysChdir, "none"), api.ENOENT)
	k.e(2, path(api.SysChdir, "d/f"), api.ENOTDIR)
	k.is(2, api.Call{No: api.SysMkdir, S: "no", A: -1}, api.Result{})
	k.is(2, api.Call{No: api.SysChmod, S: "no", A: 384}, api.Result{})
	k.e(2, path(api.SysChdir, "no"), api.EACCES)
	k.is(2, path(api.SysList, "no"), api.Result{})
	k.is(2, api.Call{No: api.SysChmod, S: "no", A: 64}, api.Result{})
	k.e(2, path(api.SysList, "no"), api.EACCES)
	k.e(2, path(api.SysList, "d/f"), api.ENOTDIR)
	k.e(2, path(api.SysList, "d/g"), api.ENOENT)
	k.is(2, path(api.SysList, "/"), api.Result{List: []string{"d", "no"}})
	k.is(2, api.Call{No: api.SysGlob, P: pattern.Of("d/*")}, api.Result{List: []string{"d/f"}})
	k.is(1, api.Call{No: api.SysGlob, P: pattern.Of("*")}, api.Result{List: []string{"f"}})
	k.is(1, api.Call{No: api.SysGlob, P: pattern.Of("f")}, api.Result{})
	k.is(1, api.Call{No: api.SysLink, S: "f", T: "g"}, api.Result{})
	k.is(1, api.Call{No: api.SysRename, S: "g", T: "../h"}, api.Result{})
	k.e(1, api.Call{No: api.SysRename, S: "g", T: "h"}, api.ENOENT)
	k.e(1, api.Call{No: api.SysLink, S: "g", T: "h"}, api.ENOENT)
	k.e(1, path(api.SysUnlink, "g"), api.ENOENT)
	k.e(1, path(api.SysStat, "g"), api.ENOENT)
	k.e(1, api.Call{No: api.SysChmod, S: "g"}, api.ENOENT)
	k.e(1, api.Call{No: api.SysMkdir, S: "f"}, api.EEXIST)
	k.e(1, path(api.SysRmdir, "/d"), api.ENOTEMPTY)
	k.is(1, path(api.SysUnlink, "f"), api.Result{})
	k.is(2, path(api.SysRmdir, "d"), api.Result{})
	k.e(1, api.Call{No: api.SysPath}, api.ENOENT)
	k.e(1, path(api.SysChdir, ".."), api.ENOENT)
	k.is(1, path(api.SysChdir, "."), api.Result{})
	if _, err := k.Files().Stat(2); err != api.OK {
		t.Error("a directory that a process is in stays")
	}
	k.is(1, path(api.SysChdir, "/"), api.Result{})
	if _, err := k.Files().Stat(2); err != api.EBADF {
		t.Error("nobody is there any more")
	}
	k.is(2, exit(0), api.Result{})
}

// P12.1: of a nil kernel nothing.
func TestNil(t *testing.T) {
	var k *gate.Kernel
	r, waits := k.Call(1, api.Call{No: api.SysTick})
	if !reflect.DeepEqual(r, api.Result{Err: api.ESRCH}) || waits || k.Waits(1, read(0, 1)) || k.Type("x") != api.ESRCH || k.Typed() != 0 || k.Output(1) != "" || k.Files() != nil || k.Table(1) != nil {
		t.Error("nil tells something")
	}
	k.End()
	for p := range k.Procs() {
		t.Error(p)
	}
	for _, d := range k.Descs() {
		t.Error(d)
	}
	if a, b, c := k.Pipe(1); a+b+c != 0 {
		t.Error(a, b, c)
	}
}

func someCall(r *rand.Rand, procs []int) api.Call {
	paths := []string{"a", "b", "d", "d/a", "d/b", "..", "/", "", "a/"}
	return api.Call{
		No: []int{1, 1, 2, 2, 2, 3, 3, 3, 4, 4, 5, 6, 7, 7, 8, 8, 9, 10, 11, 11, 12, 13, 14, 15, 16, 17, 18, 19, 20, 21, 22, 23, 24, 25, 26, 27, 28, 29}[r.Intn(38)],
		A:  []int{r.Intn(12), r.Intn(64), -1, procs[r.Intn(len(procs))], 7}[r.Intn(5)],
		B:  []int{r.Intn(12), 511, 0, 1, 30, 70}[r.Intn(6)],
		S:  []string{paths[r.Intn(len(paths))], rep("x", r.Intn(90)), rep("y", r.Intn(2)*60000)}[r.Intn(20)/7],
		T:  paths[r.Intn(len(paths))],
		P:  pattern.Of("*"),
	}
}

// P12.2, P12.3, P12.4: over many calls made by chance the counts hold, refusals are due and change
// nothing, and in the end what is left are the descriptions of the first process.
func TestByChance(t *testing.T) {
	r := rand.New(rand.NewSource(21))
	seen := map[api.Errno]int{}
	for range 30 {
		k := start(t)
		for range 400 {
			var pids, running []int
			for p := range k.Procs() {
				pids = append(pids, p.Pid)
				if !p.Ended {
					running = append(running, p.Pid)
				}
			}
			if r.Intn(30) == 0 {
				k.Type("typed")
			}
			pid, c := running[r.Intn(len(running))], someCall(r, pids)
			was, free := k.told(), 0
			for _, n := range k.Table(pid) {
				if n == -1 {
					free++
				}
			}
			bytes := k.Files().Bytes()
			would := k.Waits(pid, c)
			res, waits := k.Call(pid, c)
			k.counts()
			seen[res.Err]++
			if would != waits || (waits || res.Err != api.OK && res.Err != api.EPIPE) && k.told() != was {
				t.Fatalf("%d %.60v: %v %v", pid, c, res, waits)
			}
			if res.Err != api.OK && !reflect.DeepEqual(res, api.Result{Err: res.Err}) {
				t.Fatal(res)
			}
			switch res.Err {
			case api.EMFILE:
				if free > 1 || free == 1 && c.No != api.SysPipe && c.No != api.SysDup {
					t.Fatal(c, free)
				}
			case api.EAGAIN:
				if len(pids) < api.MaxProcs || c.No != api.SysFork {
					t.Fatal(c, pids)
				}
			case api.ENOSPC:
				if bytes+len(c.S)+60000 < api.MaxBytes && c.No != api.SysTruncate {
					t.Fatal(c.No, bytes)
				}
			}
		}
		k.End()
		for len(slices.Collect(k.Procs())) > 1 {
			for p := range k.Procs() {
				k.Call(p.Pid, exit(0))
			}
			k.Call(1, wait(-1, 1))
			k.counts()
		}
		names := map[int]bool{}
		for _, n := range k.Table(1) {
			if n != -1 {
				names[n] = true
			}
		}
		n := 0
		for d := range k.Descs() {
			if n++; !names[d] {
				t.Fatal("nothing names", d)
			}
		}
		if n != len(names) {
			t.Fatal(n, names)
		}
	}
	for _, err := range []api.Errno{0, api.EBADF, api.EPIPE, api.EMFILE, api.EAGAIN, api.ECHILD, api.EINVAL, api.EISDIR, api.ENOENT} {
		if seen[err] == 0 {
			t.Error("never met:", err)
		}
	}
}

// P12.1: who ranges over the kernel may ask it meanwhile.
func TestAskedMeanwhile(t *testing.T) {
	k := start(t)
	for i := range 4 {
		k.n(1, fork, 2+i)
	}
	var l []int
	for p := range k.Procs() {
		l = append(l, p.Pid)
		if p.Pid == 2 {
			k.Call(3, exit(0))
			k.Call(1, wait(3, 0))
			k.Call(2, exit(0))
			k.Call(1, wait(2, 0))
		}
	}
	if !slices.Equal(l, []int{1, 2, 4, 5}) {
		t.Error(l)
	}
	n := 0
	for range k.Descs() {
		for fd := range 3 {
			k.Call(1, closing(fd))
			k.Call(4, closing(fd))
			k.Call(5, closing(fd))
		}
		n++
	}
	if n != 1 {
		t.Error(n)
	}
}
