package yard_test

import (
	"fmt"
	"math"
	"math/rand"
	"reflect"
	"slices"
	"strings"
	"testing"

	"shyard/api"
	"shyard/gate"
	"shyard/octet"
	"shyard/parse"
	"shyard/show"
	"shyard/yard"
)

var rep = strings.Repeat

func begin(t *testing.T, text string, args ...string) *yard.Yard {
	t.Helper()
	y, place, err := yard.New([]api.Pair{{Path: "bin/hello", Data: "echo hello $1"}}, text, args)
	if y == nil || place != 0 || err != api.OK {
		t.Fatal(place, err)
	}
	return y
}

func pick(raw, fuel int) api.Step { return api.Step{Kind: api.StepPick, Raw: raw, Fuel: fuel} }

// run picks till nobody is ready.
func run(y *yard.Yard, fuel int) {
	for i := 0; y.Do(pick(i, fuel)).Pid != 0; i++ {
	}
}

// P22.1: New and its errors.
func TestNew(t *testing.T) {
	ok := []api.Pair{{Path: "a"}}
	twice := []api.Pair{{Path: "a"}, {Path: "b"}, {Path: "a"}}
	args := make([]string, api.MaxArgs+1)
	for i, c := range []struct {
		pairs []api.Pair
		text  string
		args  []string
		place int
		err   api.Errno
	}{
		{nil, "", nil, 0, 0}, {ok, "fi", args[1:], 0, 0}, {twice, rep(" ", api.MaxText+1), args, 2, api.ErrTwice}, {ok, rep(" ", api.MaxText+1), args, 0, api.ErrText}, {ok, rep(" ", api.MaxText), args, 0, api.ErrArg}, {ok, rep(" ", api.MaxText), nil, 0, 0}, {[]api.Pair{{Path: "/"}}, "", nil, 0, api.ErrBoot},
	} {
		y, place, err := yard.New(c.pairs, c.text, c.args)
		if place != c.place || err != c.err || (y == nil) != (err != 0) {
			t.Error(i, y, place, err)
		}
	}
}

// P22.1: steps and what they show.
func TestDo(t *testing.T) {
	y := begin(t, "read x; echo $x $# $2; /bin/hello you; exit 3", "p", "q r")
	is := func(s api.Step, want api.Seen) {
		t.Helper()
		if got := y.Do(s); got != want {
			t.Errorf("%+v: %+v, want %+v", s, got, want)
		}
	}
	for _, kind := range []int{0, 4, -1, math.MaxInt} {
		is(api.Step{Kind: kind, S: "x", Raw: 1, Fuel: 9}, api.Seen{Err: api.ErrArg})
	}
	is(pick(0, 0), api.Seen{})
	is(pick(0, -1), api.Seen{})
	is(pick(5, 1), api.Seen{Pid: 1, N: 1})
	if y.Do(pick(0, 99)).Pid != 2 {
		t.Error("the shell's turn")
	}
	is(pick(0, 9), api.Seen{})
	is(api.Step{Kind: api.StepType, S: rep("x", 5000)}, api.Seen{Err: api.ErrTyped})
	is(api.Step{Kind: api.StepType, S: "typed"}, api.Seen{})
	is(api.Step{Kind: api.StepEnd, S: "more", Raw: 1}, api.Seen{})
	is(api.Step{Kind: api.StepType, S: ""}, api.Seen{Err: api.EINVAL})
	run(y, 3)
	if y.Out(1) != "typed 2 q r\nhello you\n" || y.Out(2)+y.Out(0)+y.Out(3) != "" || !slices.Equal(y.Reaped(), []api.Exit{{Pid: 2, Status: 3}}) {
		t.Error(y.Out(1), y.Out(2), y.Reaped())
	}
	if l := y.Tree(); !slices.Equal(l, []api.Entry{{Path: "bin", Kind: 2, Mode: 493}, {Path: "bin/hello", Kind: 1, Mode: 493, Data: "echo hello $1"}}) {
		t.Error(l)
	}
	if y.Kernel() == nil || y.Turn() == nil || y.Kernel().Output(1) != y.Out(1) || len(y.Turn().Ready()) != 0 {
		t.Error("Kernel, Turn")
	}
}

// P22.1: of a nil yard nothing.
func TestNil(t *testing.T) {
	var y *yard.Yard
	for _, s := range []api.Step{pick(0, 1), {Kind: api.StepEnd}, {Kind: api.StepType}, {}} {
		if got := y.Do(s); got != (api.Seen{Err: api.ErrArg}) {
			t.Error(got)
		}
	}
	if y.Out(1) != "" || len(y.Reaped()) != 0 || len(y.Tree()) != 0 || y.Kernel() != nil || y.Turn() != nil {
		t.Error("nil tells something")
	}
}

// P22.1: the lines of a script.
func TestScript(t *testing.T) {
	for _, c := range []struct{ text, script, want string }{
		{"", "", ""}, {"echo hi", "pick 0 1\nout\n", "1 1\n-\n"}, {"echo hi", "pick 0 9\npick 0 99\npick 0 99\npick 0 99\npick 0 99\nout\nout\nreaped\nreaped", ""}, {":", "\n  \n# pick 0 1\n #x\nend", "ok\n"}, {"cat", "type a\\x0ab\nend\ntype c\ntype -\n", "ok\nok\nerror 22\nerror 22\n"}, {"cat", "type " + rep("x", 4097) + "\ntype " + rep("x", 4096) + "\ntype -\ntype x", "error 72\nok\nok\nerror 72\n"},
		{"", "ready\nprocs\ntree\nreaped\nout\nerr", "1\n1:1\nbin:2:493:- bin/a\\x20\\x5c:1:493:\\x00b\\xff-\nnone\n-\n-\n"}, {"", "  pick   -1    +1  \nready\nprocs\npick 0 0\npick 9 -5", "1 1\n2\n1:1 2:1\n0 0\n0 0\n"},
		{"", "pick\npick 1\npick 0 1 2\npick x 1\npick 0 9223372036854775808\npick 0 1x\nend x\nout 1\nnothing\ntype\ntype a b\ntype \\\ntype \\x1\ntype \\x1G\ntype \\x0A\ntype \\n\ntype \xc3\xa9\ntype a\tb\nPICK 0 1\npick\t0 1\nerr #\n-\ntree tree", rep("error 73\n", 23)}, {"printf '!~|%s' } &", rep("pick -1 99\n", 9) + "out", ""}, {"", "pick 9223372036854775807 1\npick -9223372036854775808 -9223372036854775808\ntype !~\\x7f\\x20\n", "1 1\n0 0\nok\n"}, {"", "procs\r\nready \nx#\n\t# x", "error 73\n1\nerror 73\nerror 73\n"},
		{"exit 7 & exit 3", "pick 0 9\npick 0 99\npick 0 99\npick 0 99\npick 0 99\npick 0 99\npick 0 99\nprocs\nready", ""},
	} {
		got, err := yard.Script([]api.Pair{{Path: "/bin/a \\", Data: "\x00b\xff-"}}, c.text, nil, c.script)
		if c.want != "" && got != c.want || err != api.OK {
			t.Errorf("%q: %q %d, want %q", c.script, got, err, c.want)
		}
		if c.want == "" && c.script != "" && !strings.Contains(got, "hi\\x0a\n-\n2:0\nnone\n") && !strings.HasSuffix(got, "1:1\nnone\n") && !strings.HasSuffix(got, "\n!~|}\n") {
			t.Errorf("%q: %q", c.script, got)
		}
	}
	if s, err := yard.Script(nil, rep(" ", api.MaxText+1), nil, rep(" ", api.MaxText+1)); s != "" || err != api.ErrText {
		t.Error(s, err)
	}
	if s, err := yard.Script([]api.Pair{{}}, "", nil, rep(" ", api.MaxText)); s != "" || err != api.ErrBoot {
		t.Error(s, err)
	}
	if s, err := yard.Script(nil, "", make([]string, 201), "out"); s != "" || err != api.ErrArg {
		t.Error(s, err)
	}
	got, _ := yard.Script(nil, "(exit 3) & (exit 4) & printf -; no", nil, rep("pick -1 5\n", 40)+"out\nerr\nerr\nreaped")
	if !strings.HasSuffix(strings.ReplaceAll(got, "0 0\n", ""), "\\x2d\nshyard:\\x20no:\\x20127\\x0a\n-\n2:127 3:3 4:4\n") {
		t.Error(got)
	}
	got, _ = yard.Script(nil, "(exit 3) & read x", nil, rep("pick 0 50\n", 6)+"procs\nready\ntype a\nready")
	if !strings.HasSuffix(got, "1:1 2:1 3:2:3\nnone\nok\n2\n") {
		t.Error(got)
	}
}

// written is a script's answers, made of steps.
type written struct {
	y        *yard.Yard
	told     [3]int
	reaped   int
	answers  strings.Builder
	script   strings.Builder
	lastSeen api.Seen
}

func (w *written) bytes(s string) string {
	if s == "" {
		return "-"
	}
	var b strings.Builder
	for i := range len(s) {
		if s[i] < 0x21 || s[i] > 0x7e || s[i] == '\\' {
			fmt.Fprintf(&b, "\\x%02x", s[i])
		} else {
			b.WriteByte(s[i])
		}
	}
	return b.String()
}

func (w *written) line(line, answer string) {
	w.script.WriteString(line + "\n")
	w.answers.WriteString(answer + "\n")
}

func (w *written) step(r *rand.Rand) {
	join := func(l []string) string {
		if len(l) == 0 {
			return "none"
		}
		return strings.Join(l, " ")
	}
	ok := func(e api.Errno) string {
		if e == 0 {
			return "ok"
		}
		return fmt.Sprintf("error %d", int(e))
	}
	var l []string
	switch r.Intn(12) {
	default:
		raw, fuel := r.Intn(9)-3, r.Intn(30)
		s := w.y.Do(pick(raw, fuel))
		w.line(fmt.Sprintf("pick %d %d", raw, fuel), fmt.Sprintf("%d %d", s.Pid, s.N))
	case 0:
		s := []string{"a\n", "", "\x00\\ ", rep("y", 3000)}[r.Intn(4)]
		w.line("type "+w.bytes(s), ok(w.y.Do(api.Step{Kind: api.StepType, S: s}).Err))
	case 1:
		if r.Intn(4) == 0 {
			w.line("end", ok(w.y.Do(api.Step{Kind: api.StepEnd}).Err))
		}
	case 2:
		n := 1 + r.Intn(2)
		s := w.y.Out(n)
		w.line([]string{"out", "err"}[n-1], w.bytes(s[w.told[n]:]))
		w.told[n] = len(s)
	case 3:
		all := w.y.Reaped()
		for _, e := range all[w.reaped:] {
			l = append(l, fmt.Sprintf("%d:%d", e.Pid, e.Status))
		}
		w.reaped = len(all)
		w.line("reaped", join(l))
	case 4:
		for _, e := range w.y.Tree() {
			l = append(l, fmt.Sprintf("%s:%d:%d:%s", w.bytes(e.Path), e.Kind, e.Mode, w.bytes(e.Data)))
		}
		w.line("tree", join(l))
	case 5:
		for p := range w.y.Kernel().Procs() {
			s := fmt.Sprintf("%d:%d", p.Pid, p.Parent)
			if p.Ended {
				s += fmt.Sprintf(":%d", p.Status)
			}
			l = append(l, s)
		}
		w.line("procs", join(l))
		l = nil
		for _, pid := range w.y.Turn().Ready() {
			l = append(l, fmt.Sprint(pid))
		}
		w.line("ready", join(l))
	}
}

var texts = []string{
	"echo a b | wc -w; read x; echo \"$x\" >f; cat f nofile; exit 3", "cat | tr a-z A-Z; no", "for i in 1 2 3; do seq $i | rev & done; wait; echo done", "while read x; do echo \"<$x>\"; done; mkdir d; cd d; >g", "x=$(cat); printf '%s\\n' \"$x\"; (exit 4) & exit 5", "echo ${x?gone}", "echo a\nfi",
}

// P22.2, P22.3: what Script answers is what the same steps show, written; and again in a new yard.
func TestSteps(t *testing.T) {
	r := rand.New(rand.NewSource(37))
	for range 60 {
		text := texts[r.Intn(len(texts))]
		w := &written{y: begin(t, text)}
		for range 60 {
			w.step(r)
		}
		for range 2 {
			got, err := yard.Script([]api.Pair{{Path: "bin/hello", Data: "echo hello $1"}}, text, nil, w.script.String())
			if got != w.answers.String() || err != api.OK {
				t.Fatalf("%s\n%s\n%s\nwant\n%s", text, w.script.String(), got, w.answers.String())
			}
		}
	}
}

// seen is all that a kernel shows.
func seen(k *gate.Kernel) string {
	var l []any
	for p := range k.Procs() {
		l = append(l, p, k.Table(p.Pid))
	}
	for n, d := range k.Descs() {
		r, w, held := k.Pipe(d.N)
		l = append(l, n, d, r, w, held)
	}
	for e := range k.Files().Tree() {
		l = append(l, e)
	}
	return fmt.Sprint(append(l, k.Typed(), k.Output(1), "|", k.Output(2))...)
}

// counts: P0.4.
func counts(t *testing.T, k *gate.Kernel) {
	t.Helper()
	refs, ends := map[int]int{}, map[int][2]int{}
	for p := range k.Procs() {
		for _, n := range k.Table(p.Pid) {
			refs[n]++
		}
	}
	for n, d := range k.Descs() {
		if d.Refs != refs[n] || d.Refs == 0 {
			t.Fatal(n, d, refs[n])
		}
		e := ends[d.N]
		if d.Kind == api.DescRead {
			e[0]++
		}
		if d.Kind == api.DescWrite {
			e[1]++
		}
		if d.Kind == api.DescRead || d.Kind == api.DescWrite {
			ends[d.N] = e
		}
	}
	for n, e := range ends {
		if r, w, _ := k.Pipe(n); r != e[0] || w != e[1] {
			t.Fatal(n, e, r, w)
		}
	}
}

// P0.1: what a yard shows is what its calls make of a kernel alone; a pick's fuel may be cut in two;
// P0.4: behind each step the counts hold; P0.5: in the end nothing is left.
func TestOneOrder(t *testing.T) {
	r := rand.New(rand.NewSource(38))
	for range 60 {
		text := texts[r.Intn(len(texts))]
		y, whole := begin(t, text), begin(t, text)
		typed := func(s string) {
			y.Do(api.Step{Kind: api.StepType, S: s})
			whole.Do(api.Step{Kind: api.StepType, S: s})
		}
		typed("one\ntwo\n")
		for i := 0; ; i++ {
			raw, a, b := r.Intn(99)-50, 1+r.Intn(9), 1+r.Intn(9)
			s := whole.Do(pick(raw, a+b))
			if s.Pid == 0 {
				break
			}
			first := y.Do(pick(raw, a))
			n := first.N
			if n == a {
				n += y.Turn().Run(first.Pid, b)
			}
			if first.Pid != s.Pid || n != s.N || seen(y.Kernel()) != seen(whole.Kernel()) {
				t.Fatal(text, first, n, s)
			}
			counts(t, y.Kernel())
		}
		y.Do(api.Step{Kind: api.StepEnd})
		run(y, 1+r.Intn(20))
		counts(t, y.Kernel())
		if l := slices.Collect(y.Kernel().Procs()); len(l) != 1 {
			t.Fatal(text, l)
		}
		n := 0
		for _, d := range y.Kernel().Descs() {
			if n++; d.Kind != api.DescConsole || d.Refs != 1 {
				t.Fatal(text, d)
			}
		}
		if n != 3 {
			t.Fatal(text, n)
		}
		alone := gate.New()
		alone.Files().Mkdir(1, "bin", 493)
		alone.Files().Create(1, "bin/hello", 493)
		alone.Files().Write(3, 0, "echo hello $1")
		alone.Type("one\ntwo\n")
		alone.End()
		results := slices.Collect(y.Turn().Results())
		i := 0
		for pid, c := range y.Turn().Log() {
			if got, waits := alone.Call(pid, c); waits || !reflect.DeepEqual(got, results[i]) {
				t.Fatal(text, pid, c, got, waits, results[i])
			}
			i++
		}
		if seen(alone) != seen(y.Kernel()) {
			t.Fatal(text, seen(alone), seen(y.Kernel()))
		}
	}
}

// side makes texts whose commands wait for one another, and whose stages touch nothing in common.
type side struct{ *rand.Rand }

func (s side) one(l ...string) string { return l[s.Intn(len(l))] }

func (s side) source() string {
	return s.one("seq 20", "echo a b c", "printf '%s\\n' b a \"$x\" b", "cat t", "x=$(echo in) eval 'echo $x'", "for i in 3 1 2; do echo $i; done", "(cd d; ls; pwd)", "no", "seq 200", "case $x in (a*) echo A;; (*) echo B; esac", "cat <<E\ndoc $x\nsecond\nE\n", "{ echo 1; (echo 2); }", "f x", "echo $((n+1))", "exit 3")
}

func (s side) filter() string {
	return s.one("cat", "sort", "sort -r", "rev", "uniq -c", "tr a-c x", "wc", "nl", "tail -n 2", "head -n 3", "grep a", "grep -v 1", "while read y; do echo \"<$y>\"; done", "{ read y; cat; }", "f y", "(cat; echo z)", "cut -d ' ' -f 1", "tee", "if true; then cat; fi")
}

func (s side) pipeline() string {
	text := s.source()
	if strings.HasSuffix(text, "\n") {
		return "{ " + text + "} | " + s.filter()
	}
	for s.Intn(3) > 0 {
		text += " | " + s.filter()
	}
	return text
}

func (s side) text() string {
	text := "f() { cat; echo \"f $1\"; }\nx=abc n=4\n"
	for range 1 + s.Intn(4) {
		p := s.pipeline()
		text += s.one(p, "! "+p, "x=$("+p+")", "("+p+") >o; cat o", p+" && echo yes || echo no", "if "+p+"\nthen echo then; else echo else; fi", "for j in 1 2; do "+p+"\ndone", "{ "+p+"\n} 2>&1", "eval "+octet.Quote(p)) + "\n"
	}
	return text + "echo $? \"$x\" $j\n"
}

func lead(t *testing.T, text string, next func() (int, int)) string {
	y, _, err := yard.New([]api.Pair{{Path: "t", Data: "t1\nt2\n"}, {Path: "d/e"}}, text, nil)
	if err != api.OK {
		t.Fatal(text, err)
	}
	y.Do(api.Step{Kind: api.StepEnd})
	for {
		raw, fuel := next()
		if y.Do(pick(raw, fuel)).Pid == 0 {
			break
		}
	}
	last := y.Reaped()
	return fmt.Sprint(y.Out(1), "|", y.Out(2), "|", last[len(last)-1].Status, len(last), y.Tree())
}

// P0.2: side by side a text leads to the same, whoever is picked; so does the text that is shown of it.
func TestSideBySide(t *testing.T) {
	r := side{rand.New(rand.NewSource(39))}
	for range 150 {
		text := r.text()
		want := lead(t, text, func() (int, int) { return 0, 1 << 20 })
		for range 3 {
			most := 1 + r.Intn(20)
			if got := lead(t, text, func() (int, int) { return r.Int(), 1 + r.Intn(most) }); got != want {
				t.Fatalf("%s\n%s\nwant\n%s", text, got, want)
			}
		}
		var trees []api.Node
		for n, err := range parse.Commands(text) {
			if err != api.OK {
				t.Fatal(text, err)
			}
			trees = append(trees, n)
		}
		shown, err := show.Text(trees...)
		if err != api.OK {
			t.Fatal(text, err)
		}
		if got := lead(t, shown, func() (int, int) { return r.Int(), 1 + r.Intn(9) }); got != want {
			t.Fatalf("%s\n%s\nwant\n%s", shown, got, want)
		}
	}
}

// P0.3: a text of any bytes goes through all as it is.
func TestAsItIs(t *testing.T) {
	r := rand.New(rand.NewSource(40))
	for range 60 {
		b := make([]byte, 1+r.Intn(200))
		for i := range b {
			b[i] = byte(r.Intn(256))
			if r.Intn(3) > 0 {
				b[i] = " \n'\"\\$*`ab"[r.Intn(10)]
			}
		}
		s := string(b)
		text := "f() { printf %s \"$1\" | cat; }\nx=" + octet.Quote(s) + "\ncat <<E >doc\n$x\nE\nf \"$x\" >f\ny=$(cat f)\nprintf %s \"$y\" >cut\nset -- \"$x\"; tee <f in | cat; cat doc f in cut"
		y := begin(t, text)
		run(y, 50)
		cut := strings.TrimRight(s, "\n")
		if got := y.Out(1); got != s+s+"\n"+s+s+cut || y.Out(2) != "" {
			t.Fatalf("%q: %q %q", s, got, y.Out(2))
		}
	}
}

// The ten examples of the whole.
func TestExamples(t *testing.T) {
	for _, c := range []struct {
		text, typed, out, err string
		status                int
	}{
		{"echo a b | wc -w", "", "2\n", "", 0}, {"x=1; (x=2; cd /d); echo $x; pwd", "", "1\n/\n", "shyard: /d: 2\n", 0}, {"echo one >f; cat f f | sort -u | wc -l", "", "1\n", "", 0}, {"for i in 1 2 3; do [ $i = 2 ] && continue; echo $i; done", "", "1\n3\n", "", 0}, {"echo a\n)\necho b", "", "a\n", "shyard: 56\n", 2}, {"seq 1000 | { read x; echo $x; }", "", "1\n", "", 0}, {"read x; echo $x", "typed\n", "typed\n", "", 0}, {"f() { f; }; f", "", "", "shyard: f: 65\n", 1},
	} {
		for fuel := range 5 {
			y := begin(t, c.text)
			run(y, fuel*fuel+1)
			if c.typed != "" {
				if len(y.Turn().Ready()) != 0 || y.Out(1) != "" {
					t.Error("the shell is ready, though nothing was typed")
				}
				y.Do(api.Step{Kind: api.StepType, S: c.typed})
				run(y, 2)
			}
			if y.Out(1) != c.out || y.Out(2) != c.err || !slices.Equal(y.Reaped(), []api.Exit{{Pid: 2, Status: c.status}}) {
				t.Errorf("%s: %q %q %v", c.text, y.Out(1), y.Out(2), y.Reaped())
			}
		}
	}
	y := begin(t, "while :; do :; done")
	for _, fuel := range []int{1, 10, 1000} {
		if s := y.Do(pick(-1, fuel)); s.N != fuel || y.Out(1) != "" {
			t.Error(s)
		}
	}
	y = begin(t, "while :; do :; done & while :; do :; done & while :; do :; done")
	y.Do(pick(0, 1))
	for len(y.Turn().Ready()) < 3 {
		y.Do(pick(0, 1))
	}
	if l := y.Turn().Ready(); y.Do(pick(-1, 1)).Pid != l[2] {
		t.Error(l)
	}
}
