package turn_test

import (
	"fmt"
	"iter"
	"math"
	"math/rand"
	"reflect"
	"slices"
	"testing"

	"shyard/api"
	"shyard/gate"
	"shyard/pattern"
	"shyard/turn"
)

type program = iter.Seq[*api.Ask]

// of is a program of calls, whatever is answered.
func of(calls ...api.Call) program {
	return func(yield func(*api.Ask) bool) {
		for _, c := range calls {
			if !yield(&api.Ask{Call: c}) {
				return
			}
		}
	}
}

func say(s string) api.Call    { return api.Call{No: api.SysWrite, A: 1, S: s} }
func read(fd, n int) api.Call  { return api.Call{No: api.SysRead, A: fd, B: n} }
func exit(status int) api.Call { return api.Call{No: api.SysExit, A: status} }

var tick = api.Call{No: api.SysTick}

// echo reads bytes and says them, with how many asks were made so far.
func echo(yield func(*api.Ask) bool) {
	for n := 0; ; n++ {
		a := &api.Ask{Call: read(0, 3)}
		if !yield(a) || a.Result.S == "" {
			return
		}
		if !yield(&api.Ask{Call: say(fmt.Sprint(n, a.Result.S))}) {
			return
		}
	}
}

// parent forks children and waits for them.
func parent(children ...program) program {
	return func(yield func(*api.Ask) bool) {
		for _, c := range children {
			if !yield(&api.Ask{Call: api.Call{No: api.SysFork}, Child: c}) {
				return
			}
		}
		for range children {
			a := &api.Ask{Call: api.Call{No: api.SysWait, A: -1}}
			if !yield(a) || !yield(&api.Ask{Call: say(fmt.Sprint(a.Result.N, "=", a.Result.M, " "))}) {
				return
			}
		}
	}
}

func forever(yield func(*api.Ask) bool) {
	for yield(&api.Ask{Call: tick}) {
	}
}

func ready(t *testing.T, x *turn.Turn, want ...int) {
	t.Helper()
	if l := x.Ready(); !slices.Equal(l, want) {
		t.Errorf("ready: %v, want %v", l, want)
	}
}

func next(t *testing.T, x *turn.Turn, pid int, want api.Call, there bool) {
	t.Helper()
	if c, ok := x.Next(pid); !reflect.DeepEqual(c, want) || ok != there {
		t.Errorf("next of %d: %+v %v", pid, c, ok)
	}
}

func run(t *testing.T, x *turn.Turn, pid, fuel, want int) {
	t.Helper()
	if n := x.Run(pid, fuel); n != want {
		t.Errorf("Run(%d, %d): %d, want %d", pid, fuel, n, want)
	}
}

// P13.1: Start, Ready, Next, Run, and a program's end.
func TestRun(t *testing.T) {
	k := gate.New()
	x := turn.New(k)
	ready(t, x)
	next(t, x, 1, api.Call{}, false)
	run(t, x, 1, 9, 0)
	for _, pid := range []int{0, 2, -1, math.MaxInt} {
		if err := x.Start(pid, of(tick)); err != api.ESRCH {
			t.Error(pid, err)
		}
		run(t, x, pid, 9, 0)
		next(t, x, pid, api.Call{}, false)
	}
	if err := x.Start(1, of(say("a"), say("b"))); err != api.OK {
		t.Error(err)
	}
	if err := x.Start(1, of(tick)); err != api.EEXIST {
		t.Error(err)
	}
	ready(t, x, 1)
	next(t, x, 1, say("a"), true)
	run(t, x, 1, 0, 0)
	run(t, x, 1, -1, 0)
	run(t, x, 1, math.MinInt, 0)
	run(t, x, 1, 1, 1)
	next(t, x, 1, say("b"), true)
	ready(t, x, 1)
	if k.Output(1) != "a" {
		t.Error(k.Output(1))
	}
	run(t, x, 1, 1, 1)
	next(t, x, 1, exit(0), true)
	ready(t, x, 1)
	run(t, x, 1, math.MaxInt, 1) // the first process may not end: its program is over
	ready(t, x)
	next(t, x, 1, api.Call{}, false)
	run(t, x, 1, 9, 0)
	if err := x.Start(1, of(tick)); err != api.EEXIST {
		t.Error(err)
	}
	var calls []api.Call
	for pid, c := range x.Log() {
		if pid != 1 {
			t.Error(pid)
		}
		calls = append(calls, c)
	}
	if !reflect.DeepEqual(calls, []api.Call{say("a"), say("b"), exit(0)}) {
		t.Error(calls)
	}
	results := slices.Collect(x.Results())
	if !reflect.DeepEqual(results, []api.Result{{N: 1}, {N: 1}, {Err: api.EPERM}}) {
		t.Error(results)
	}
}

// P13.1: who waits isn't ready; a call that would wait isn't completed.
func TestWaiting(t *testing.T) {
	k := gate.New()
	x := turn.New(k)
	x.Start(1, echo)
	ready(t, x)
	next(t, x, 1, read(0, 3), true)
	run(t, x, 1, 9, 0)
	k.Type("abcd")
	ready(t, x, 1)
	run(t, x, 1, 9, 4)
	if k.Output(1) != "0abc1d" {
		t.Error(k.Output(1))
	}
	ready(t, x)
	k.Type("e")
	run(t, x, 1, 1, 1)
	next(t, x, 1, say("2e"), true)
	k.End()
	run(t, x, 1, 9, 3)
	ready(t, x)
	if n := len(slices.Collect(x.Results())); n != 8 {
		t.Error(n)
	}
}

// P13.1: children have the programs of their forks; none has no asks.
func TestFork(t *testing.T) {
	k := gate.New()
	x := turn.New(k)
	x.Start(1, parent(of(say("x"), exit(3)), nil, of(exit(300))))
	run(t, x, 1, 9, 3)
	ready(t, x, 2, 3, 4)
	next(t, x, 3, exit(0), true)
	if err := x.Start(2, of()); err != api.EEXIST {
		t.Error(err)
	}
	run(t, x, 4, 9, 1)
	ready(t, x, 1, 2, 3)
	next(t, x, 4, api.Call{}, false)
	if err := x.Start(4, of()); err != api.ESRCH {
		t.Error(err)
	}
	run(t, x, 4, 9, 0)
	run(t, x, 1, 9, 2)
	run(t, x, 3, 9, 1)
	run(t, x, 2, 9, 2)
	ready(t, x, 1)
	run(t, x, 1, 99, 5)
	if k.Output(1) != "4=44 x2=3 3=0 " {
		t.Error(k.Output(1))
	}
	ready(t, x)
}

// P13.1: only a fork gives a program to the process that is answered.
func TestNoProgram(t *testing.T) {
	k := gate.New()
	x := turn.New(k)
	k.Call(1, api.Call{No: api.SysFork})
	x.Start(1, of(say("ab"), api.Call{No: api.SysFork, A: 2}))
	run(t, x, 1, 2, 2)
	ready(t, x, 1, 3)
	next(t, x, 2, api.Call{}, false)
	if err := x.Start(2, of(tick)); err != api.OK {
		t.Error(err)
	}
	ready(t, x, 1, 2, 3)
}

// P13.1: a process that was ended by a broken pipe asks nothing more.
func TestBrokenPipe(t *testing.T) {
	k := gate.New()
	x := turn.New(k)
	pipe, _ := k.Call(1, api.Call{No: api.SysPipe})
	x.Start(1, parent(of(api.Call{No: api.SysClose, A: pipe.N}, api.Call{No: api.SysWrite, A: pipe.M, S: "x"}, say("no"))))
	run(t, x, 1, 1, 1)
	k.Call(1, api.Call{No: api.SysClose, A: pipe.N})
	run(t, x, 2, 9, 2)
	next(t, x, 2, api.Call{}, false)
	run(t, x, 1, 9, 3)
	if k.Output(1) != "2=141 " {
		t.Error(k.Output(1))
	}
	results := slices.Collect(x.Results())
	if !reflect.DeepEqual(results[2], api.Result{Err: api.EPIPE}) {
		t.Error(results)
	}
}

// P13.1: Pick.
func TestPick(t *testing.T) {
	pick := func(x *turn.Turn, raw, fuel, pid, n int) {
		t.Helper()
		if p, m := x.Pick(raw, fuel); p != pid || m != n {
			t.Errorf("Pick(%d, %d): %d %d, want %d %d", raw, fuel, p, m, pid, n)
		}
	}
	k := gate.New()
	x := turn.New(k)
	pick(x, 0, 9, 0, 0)
	k.Call(1, api.Call{No: api.SysFork})
	x.Start(1, of(say("a")))
	x.Start(2, of(say("b")))
	ready(t, x, 1, 2)
	pick(x, 0, 0, 0, 0)
	pick(x, 0, -1, 0, 0)
	pick(x, 0, 1, 1, 1)
	pick(x, -1, 9, 2, 2)
	pick(x, math.MinInt, 9, 1, 1)
	pick(x, 0, 9, 0, 0)

	k = gate.New()
	x = turn.New(k)
	for range 2 {
		k.Call(1, api.Call{No: api.SysFork})
	}
	for pid := range 3 {
		x.Start(pid+1, forever)
	}
	for raw, pid := range map[int]int{0: 1, 1: 2, 2: 3, 3: 1, -1: 3, -2: 2, -3: 1, -4: 3, math.MaxInt: math.MaxInt%3 + 1, math.MinInt: (math.MinInt%3+3)%3 + 1} {
		pick(x, raw, 2, pid, 2)
	}
}

// P13.1: of a nil turn, and over a nil kernel, nothing.
func TestNil(t *testing.T) {
	var none *turn.Turn
	for _, x := range []*turn.Turn{none, turn.New(nil)} {
		if err := x.Start(1, of()); err != api.ESRCH {
			t.Error(err)
		}
		ready(t, x)
		next(t, x, 1, api.Call{}, false)
		run(t, x, 1, 9, 0)
		if p, n := x.Pick(0, 9); p != 0 || n != 0 {
			t.Error(p, n)
		}
		for pid := range x.Log() {
			t.Error(pid)
		}
		for r := range x.Results() {
			t.Error(r)
		}
	}
}

// P0: programs that are none, that ask nothing, or that panic, end like others.
func TestStrange(t *testing.T) {
	for _, p := range []program{nil, of(), func(yield func(*api.Ask) bool) { panic("at once") },
		func(yield func(*api.Ask) bool) { yield(nil) },
		func(yield func(*api.Ask) bool) { yield(&api.Ask{Call: tick}); yield(&api.Ask{Call: tick}) },
		func(yield func(*api.Ask) bool) { yield(&api.Ask{Call: tick}); panic("then") }} {
		k := gate.New()
		x := turn.New(k)
		if err := x.Start(1, parent(p)); err != api.OK {
			t.Error(err)
		}
		for range 9 {
			x.Pick(-1, 1)
		}
		ready(t, x)
		if k.Output(1) != "2=0 " {
			t.Error(k.Output(1))
		}
	}
}

// R4: what is handed out and in is nobody else's.
func TestOwnLists(t *testing.T) {
	k := gate.New()
	x := turn.New(k)
	k.Files().Create(1, "a", 420)
	p := pattern.Of("*")
	x.Start(1, func(yield func(*api.Ask) bool) {
		for range 2 {
			a := &api.Ask{Call: api.Call{No: api.SysGlob, P: slices.Clone(p)}}
			if !yield(a) {
				return
			}
			got := a.Result.List[0]
			a.Result.List[0], a.Call.P[0].B = "changed", 'x'
			if !yield(&api.Ask{Call: say(got)}) {
				return
			}
		}
	})
	if c, _ := x.Next(1); len(c.P) == 1 {
		c.P[0].B = 'y'
	}
	for range 9 {
		x.Run(1, 1)
		for _, c := range x.Log() {
			if len(c.P) > 0 {
				c.P[0].B = 'z'
			}
		}
		for r := range x.Results() {
			if len(r.List) > 0 {
				r.List[0] = "other"
			}
		}
	}
	if k.Output(1) != "aa" {
		t.Error(k.Output(1))
	}
	for _, c := range x.Log() {
		if len(c.P) > 0 && c.P[0].B != '*' {
			t.Error(c)
		}
	}
	for range x.Log() {
		break
	}
	for range x.Results() {
		break
	}
}

// several are programs that work with one another over pipes and files.
func several() program {
	rd, wr := 3, 4
	writer := of(api.Call{No: api.SysClose, A: rd}, api.Call{No: api.SysWrite, A: wr, S: "abcdefgh"}, tick, api.Call{No: api.SysWrite, A: wr, S: "ij"}, say("w"))
	reader := func(yield func(*api.Ask) bool) {
		if !yield(&api.Ask{Call: api.Call{No: api.SysClose, A: wr}}) {
			return
		}
		for {
			a := &api.Ask{Call: read(rd, 3)}
			if !yield(a) || a.Result.S == "" || !yield(&api.Ask{Call: say(a.Result.S)}) {
				return
			}
		}
	}
	return func(yield func(*api.Ask) bool) {
		if !yield(&api.Ask{Call: api.Call{No: api.SysPipe}}) {
			return
		}
		for _, c := range []program{writer, reader, echo, of(api.Call{No: api.SysOpen, S: "f", A: 6, B: 511}, api.Call{No: api.SysWrite, A: 5, S: "data"}, exit(5))} {
			if !yield(&api.Ask{Call: api.Call{No: api.SysFork}, Child: c}) {
				return
			}
		}
		ask := func(c api.Call) bool { return yield(&api.Ask{Call: c}) }
		if !ask(api.Call{No: api.SysClose, A: rd}) || !ask(api.Call{No: api.SysClose, A: wr}) {
			return
		}
		for {
			a := &api.Ask{Call: api.Call{No: api.SysWait, A: -1}}
			if !yield(a) || a.Result.Err != 0 || !ask(say(fmt.Sprint(a.Result.N, ":", a.Result.M, " "))) {
				return
			}
		}
	}
}

func told(k *gate.Kernel) string {
	var s string
	for p := range k.Procs() {
		s += fmt.Sprint(p, k.Table(p.Pid))
	}
	for n, d := range k.Descs() {
		s += fmt.Sprint(n, d)
	}
	for e := range k.Files().Tree() {
		s += fmt.Sprint(e)
	}
	return s + k.Output(1) + "|" + k.Output(2) + fmt.Sprint(k.Typed())
}

// P13.2, P13.3: fuel may be cut in two; the kernel is what the calls of Log make of one alone.
func TestOneOrder(t *testing.T) {
	r := rand.New(rand.NewSource(22))
	for range 200 {
		k, whole := gate.New(), gate.New()
		x, y := turn.New(k), turn.New(whole)
		x.Start(1, several())
		y.Start(1, several())
		k.Type("some typed text")
		whole.Type("some typed text")
		for range 60 {
			raw, a, b := r.Int()-r.Int(), 1+r.Intn(3), r.Intn(3)
			l := x.Ready()
			if !slices.Equal(l, y.Ready()) {
				t.Fatal(l, y.Ready())
			}
			if len(l) == 0 {
				k.End()
				whole.End()
				continue
			}
			pid, n := x.Pick(raw, a)
			if n == a {
				n += x.Run(pid, b)
			}
			if pid2, m := y.Pick(raw, a+b); pid2 != pid || m != n {
				t.Fatal(pid, n, pid2, m)
			}
			if told(k) != told(whole) {
				t.Fatal(told(k), "\n", told(whole))
			}
		}
		ready(t, x)
		alone := gate.New()
		alone.Type("some typed text")
		alone.End()
		next, stop := iter.Pull(x.Results())
		for pid, c := range x.Log() {
			want, _ := next()
			if got, waits := alone.Call(pid, c); waits || !reflect.DeepEqual(got, want) {
				t.Fatal(pid, c, got, waits, want)
			}
		}
		stop()
		if told(alone) != told(k) {
			t.Fatal(told(alone), "\n", told(k))
		}
	}
}

// P13.3: typing between the turns is part of the order, too.
func TestTypedBetween(t *testing.T) {
	k := gate.New()
	x := turn.New(k)
	x.Start(1, echo)
	for i := range 5 {
		k.Type(fmt.Sprint(i))
		run(t, x, 1, 9, 2)
	}
	if k.Output(1) != "0011223344" {
		t.Error(k.Output(1))
	}
}
