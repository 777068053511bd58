package tool_test

import (
	"slices"
	"testing"

	"shyard/api"
	"shyard/quiet"
	"shyard/tool"
)

// of is a program whose only utility is x.
func of(work func(r *tool.Run) int, args ...string) func(yield func(*api.Ask) bool) {
	return tool.Program(args, func(name string) func(*tool.Run) int {
		if name == "x" {
			return work
		}
		return nil
	})
}

// A utility has its name and its arguments; its status is what its work tells; 127 of what isn't known.
func TestProgram(t *testing.T) {
	work := func(r *tool.Run) int {
		r.Say("a ")
		r.SayLine(r.Name)
		for _, a := range r.Args {
			r.SayLine(a)
		}
		return len(r.Args)
	}
	if got := quiet.New().Run(of(work, "x", "b", "c"), ""); got != (quiet.Told{Out: "a x\nb\nc\n", Status: 2}) {
		t.Error(got)
	}
	for _, args := range [][]string{{}, {"y", "x"}, {""}} {
		if got := quiet.New().Run(of(work, args...), ""); got != (quiet.Told{Status: tool.NotKnown}) {
			t.Error(args, got)
		}
	}
}

// What is said comes ahead of what is complained of behind it.
func TestComplaints(t *testing.T) {
	both := api.Call{No: api.SysDup2, A: 1, B: 2}
	got := quiet.New().Run(of(func(r *tool.Run) int {
		r.SayLine("one")
		r.Complain("path", api.ENOENT)
		r.SayLine("two")
		r.Tell("what")
		r.SayLine("three")
		return r.Usage()
	}, "x"), "", both)
	if got != (quiet.Told{Out: "one\nx: path: 2\ntwo\nx: what\nthree\nx: usage\n", Status: tool.UsageStatus}) {
		t.Error(got)
	}
}

// Files are read and written; what can't be read is complained of.
func TestFiles(t *testing.T) {
	k := quiet.New(api.Pair{Path: "f", Data: "in f"}, api.Pair{Path: "-", Data: "a path"})
	got := k.Run(of(func(r *tool.Run) int {
		// The program is stopped often; what it was told is asked when it has come to its end.
		failed := func(l ...any) {
			if !r.Gone() {
				t.Error(l...)
			}
		}
		for _, c := range [][2]string{{"f", "in f"}, {"-", "input"}, {"./-", "a path"}} {
			path, want := c[0], c[1]
			if text, ok := r.File(path); text != want || !ok {
				failed(path, text, ok)
			}
		}
		if text, ok := r.File("none"); text != "" || ok {
			failed(text, ok)
		}
		for _, how := range []int{api.OpenCut, api.OpenAppend} {
			if err := r.WriteFile("n", "text", how, 511); err != api.OK {
				failed(err)
			}
			if err := r.WriteFile("f", "new", how, 511); err != api.OK {
				failed(err)
			}
		}
		if err := r.WriteFile("x/y", "", api.OpenCut, 0); err != api.ENOENT {
			failed(err)
		}
		return 0
	}, "x"), "input")
	if got != (quiet.Told{Err: "x: none: 2\n"}) {
		t.Error(got)
	}
	for path, want := range map[string]string{"f": "newnew", "n": "texttext"} {
		if s, _ := k.File(path); s != want {
			t.Error(path, s)
		}
	}
}

// Options stand ahead of operands; -- ends them; others are refused.
func TestOptions(t *testing.T) {
	for _, c := range []struct {
		args     []string
		options  []tool.Option
		operands []string
		ok       bool
	}{
		{nil, nil, nil, true}, {[]string{"a", "-a"}, nil, []string{"a", "-a"}, true}, {[]string{"-a", "-n", "5", "-b", "x"}, []tool.Option{{Letter: 'a'}, {Letter: 'n', Value: "5"}, {Letter: 'b'}}, []string{"x"}, true}, {[]string{"-n", "--", "--", "-a"}, []tool.Option{{Letter: 'n', Value: "--"}}, []string{"-a"}, true}, {[]string{"-a", "-"}, []tool.Option{{Letter: 'a'}}, []string{"-"}, true}, {[]string{"--"}, nil, nil, true}, {[]string{"", "-a"}, nil, []string{"", "-a"}, true},
		{[]string{"-q"}, nil, nil, false}, {[]string{"-ab"}, nil, nil, false}, {[]string{"-n"}, nil, nil, false}, {[]string{"-n5"}, nil, nil, false}, {[]string{"-a", "-n"}, nil, nil, false}, {[]string{"---"}, nil, nil, false}, {[]string{"-a=1"}, nil, nil, false},
	} {
		quiet.New().Run(of(func(r *tool.Run) int {
			l, operands, ok := r.Options("ab", "n")
			if !slices.Equal(l, c.options) || !slices.Equal(operands, c.operands) || ok != c.ok {
				t.Errorf("%q: %v %q %v", c.args, l, operands, ok)
			}
			if tool.Given(l, 'a') != slices.Contains(l, tool.Option{Letter: 'a'}) || tool.Given(l, 'z') {
				t.Errorf("%q: Given", c.args)
			}
			return 0
		}, append([]string{"x"}, c.args...)...), "")
	}
}
