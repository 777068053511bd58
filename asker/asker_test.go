package asker_test

import (
	"testing"

	"shyard/api"
	"shyard/asker"
	"shyard/quiet"
)

// An asker asks the kernel; it writes and reads by as many calls as are needed.
func TestAsks(t *testing.T) {
	k := quiet.New(api.Pair{Path: "f", Data: "in f"})
	reached := false
	got := k.Run(func(yield func(*api.Ask) bool) {
		a := asker.New(yield)
		// The program is stopped often; what it was told is asked when it has come to its end.
		failed := func(l ...any) {
			if !a.Gone() {
				t.Error(l...)
			}
		}
		text, err := a.ReadFile("f")
		none, err2 := a.ReadFile("none")
		input, err3 := a.ReadAll(0)
		closed, err4 := a.ReadAll(9)
		if text != "in f" || none != "" || input != "input" || closed != "" || err != 0 || err2 != api.ENOENT || err3 != 0 || err4 != api.EBADF {
			failed(text, none, input, closed, err, err2, err3, err4)
		}
		if err := a.Write(1, text+input); err != 0 {
			failed(err)
		}
		a.Close(1)
		calls := a.Calls()
		if a.Write(1, "") != 0 || a.Calls() != calls || a.Write(1, "x") != api.EBADF || a.Calls() != calls+1 {
			failed("Write")
		}
		if x := a.Ask(api.Call{No: api.SysPid}); x.N != 2 {
			failed(x)
		}
		reached = !a.Gone()
	}, "input")
	if got.Out != "in finput" || !reached {
		t.Error(got)
	}
}

// When nobody takes what is asked any more, all is refused, and nothing is handed on.
func TestGone(t *testing.T) {
	n := 0
	a := asker.New(func(x *api.Ask) bool {
		x.Result.N = 3
		n++
		return n < 2
	})
	if x := a.Ask(api.Call{No: api.SysPid}); x.N != 3 || a.Gone() {
		t.Error(x)
	}
	for range 2 {
		if x := a.Ask(api.Call{No: api.SysPid}); x.Err != api.EIO || x.N != 0 || !a.Gone() {
			t.Error(x)
		}
	}
	text, err := a.ReadFile("f")
	if a.Pass(&api.Ask{}) || a.Write(1, "x") != api.EIO || text != "" || err != api.EIO || n != 2 {
		t.Error(text, err, n)
	}
}
