package trees

import (
	"shyard/api"
	"shyard/tool"
)

// remover takes files, and trees of them, away.
type remover struct {
	run   *tool.Run
	trees bool // with -r
}

func rm(r *tool.Run) int {
	options, l, ok := r.Options("fr", "")
	if !ok || len(l) == 0 {
		return r.Usage()
	}
	m := &remover{run: r, trees: tool.Given(options, 'r')}
	return over(l, func(path string) bool {
		err := m.unlink(path)
		if err == api.ENOENT && tool.Given(options, 'f') {
			return true
		}
		return m.removed(path, err)
	})
}

func (m *remover) unlink(path string) api.Errno {
	return m.run.Ask(api.Call{No: api.SysUnlink, S: path}).Err
}

// removed goes on as the answer of unlinking tells: a directory's names are taken away one by one.
func (m *remover) removed(path string, err api.Errno) bool {
	if err != api.EISDIR || !m.trees {
		if err != api.OK {
			m.run.Complain(path, err)
		}
		return err == api.OK
	}
	x := m.run.Ask(api.Call{No: api.SysList, S: path})
	if x.Err != api.OK {
		m.run.Complain(path, x.Err)
		return false
	}
	done := true
	for _, name := range x.List {
		inner := path + "/" + name
		done = m.removed(inner, m.unlink(inner)) && done
	}
	return tried(m.run, path, api.Call{No: api.SysRmdir, S: path}) && done
}

// target gives where what a path names comes to.
func target(r *tool.Run, from, to string) string {
	x := r.Ask(api.Call{No: api.SysStat, S: to})
	if x.Err == api.OK && x.Stat.Kind == api.Dir {
		return to + "/" + base(from)
	}
	return to
}

// toTarget asks a call of FROM and its target.
func toTarget(r *tool.Run, no int) int {
	l, ok := operands(r, 2, 2)
	if !ok {
		return r.Usage()
	}
	return over(l[:1], func(from string) bool {
		return tried(r, from, api.Call{No: no, S: from, T: target(r, from, l[1])})
	})
}

func cp(r *tool.Run) int {
	l, ok := operands(r, 2, 2)
	if !ok {
		return r.Usage()
	}
	return over(l[:1], func(from string) bool { return copied(r, from, l[1]) })
}

// copied reads all of FROM ahead of opening the target, which may be the same file.
func copied(r *tool.Run, from, to string) bool {
	text, err := r.ReadFile(from)
	if err != api.OK {
		r.Complain(from, err)
		return false
	}
	stat := r.Ask(api.Call{No: api.SysStat, S: from})
	if stat.Err != api.OK {
		r.Complain(from, stat.Err)
		return false
	}
	to = target(r, from, to)
	err = r.WriteFile(to, text, api.OpenCut, stat.Stat.Mode)
	if err != api.OK {
		r.Complain(to, err)
	}
	return err == api.OK
}
