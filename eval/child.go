package eval

import (
	"iter"

	"shyard/api"
	"shyard/asker"
)

// child gives the program of a child that does a work. The shell as it is now is
// kept, as the program may be gone through when the shell has gone on.
func (sh *shell) child(work func(c *shell)) iter.Seq[*api.Ask] {
	now := sh.copy()
	return func(yield func(*api.Ask) bool) {
		c := now.copy()
		c.Asker, c.ticked = asker.New(yield), never
		c.closeSaved()
		work(c)
		c.exit()
	}
}

// never is no number of calls: the first command needs none ahead.
const never = -1

// fork has a child do a work; false, if there can't be one: that is fatal.
func (sh *shell) fork(work func(c *shell)) (int, bool) {
	pid, err := sh.start(sh.child(work))
	if err != api.OK {
		sh.fatal("", err)
	}
	return pid, err == api.OK
}

func (sh *shell) start(p iter.Seq[*api.Ask]) (int, api.Errno) {
	a := &api.Ask{Call: api.Call{No: api.SysFork}, Child: p}
	sh.Pass(a)
	return a.Result.N, a.Result.Err
}

// wait waits for a child, and gives its status.
func (sh *shell) wait(pid int) int {
	return sh.Ask(api.Call{No: api.SysWait, A: pid}).M
}

// newPipe makes a pipe whose ends stand where no child wants its own input and outputs.
func (sh *shell) newPipe() (int, int, api.Errno) {
	x := sh.Ask(api.Call{No: api.SysPipe})
	if x.Err != api.OK {
		return 0, 0, x.Err
	}
	reads, err := sh.raise(x.N)
	writes, err2 := sh.raise(x.M)
	if err != api.OK || err2 != api.OK {
		return 0, 0, max(err, err2)
	}
	return reads, writes, api.OK
}

// own is the least descriptor that the shell uses for itself.
const own = 10

func (sh *shell) raise(fd int) (int, api.Errno) {
	if fd > 2 {
		return fd, api.OK
	}
	x := sh.Ask(api.Call{No: api.SysDup, A: fd, B: own})
	sh.Close(fd)
	return x.N, x.Err
}

// stages has each command run by a child, side by side, each one's output the next one's input.
func (sh *shell) stages(kids []api.Node) {
	input := -1
	var pids []int
	for i, k := range kids {
		reads, writes := -1, -1
		if i < len(kids)-1 {
			var err api.Errno
			if reads, writes, err = sh.newPipe(); err != api.OK {
				sh.fatal("", err)
				return
			}
		}
		in := input
		pid, ok := sh.fork(func(c *shell) {
			c.closeOpen(reads)
			c.moveOpen(in, 0)
			c.moveOpen(writes, 1)
			c.run(k, true)
		})
		if !ok {
			return
		}
		sh.closeOpen(input)
		sh.closeOpen(writes)
		pids, input = append(pids, pid), reads
	}
	for _, pid := range pids {
		sh.status = sh.wait(pid)
	}
}

// closeOpen and moveOpen do nothing of a descriptor that there isn't.
func (sh *shell) closeOpen(fd int) {
	if fd >= 0 {
		sh.Close(fd)
	}
}

func (sh *shell) moveOpen(from, to int) {
	if from >= 0 {
		sh.move(from, to)
	}
}
