package gate

import (
	"shyard/api"
	"shyard/glob"
)

// answer gives what is answered to a call that doesn't wait; beside an error nothing counts.
func (k *Kernel) answer(p *process, c api.Call) (api.Result, api.Errno) {
	switch c.No {
	case api.SysRead, api.SysWrite, api.SysOpen, api.SysClose, api.SysDup, api.SysDup2, api.SysPipe, api.SysTruncate, api.SysMark, api.SysText:
		return k.onDescriptors(p, c)
	case api.SysStat, api.SysList, api.SysUnlink, api.SysMkdir, api.SysRmdir, api.SysRename, api.SysLink, api.SysChmod, api.SysPath, api.SysGlob:
		return k.onPaths(p, c)
	}
	return k.onProcess(p, c)
}

func (k *Kernel) onDescriptors(p *process, c api.Call) (api.Result, api.Errno) {
	var r api.Result
	var err api.Errno
	switch c.No {
	case api.SysRead:
		r.S, err = k.read(p, c.A, c.B)
	case api.SysWrite:
		r.N, err = k.write(p, c.A, c.S)
	case api.SysOpen:
		r.N, err = k.open(p, c.S, c.A, c.B)
	case api.SysClose:
		err = k.close(p, c.A)
	case api.SysDup:
		r.N, err = k.dup(p, c.A, c.B)
	case api.SysDup2:
		r.N, err = k.dup2(p, c.A, c.B)
	case api.SysPipe:
		r.N, r.M, err = k.newPipe(p)
	case api.SysTruncate:
		err = k.truncate(p, c.A, c.B)
	case api.SysMark:
		err = p.table.Mark(c.A, c.B != 0)
	case api.SysText:
		r.N, err = k.text(p, c.S)
	}
	return r, err
}

func (k *Kernel) onPaths(p *process, c api.Call) (api.Result, api.Errno) {
	var r api.Result
	var err api.Errno
	switch c.No {
	case api.SysStat:
		var ino int
		if ino, err = k.files.Walk(p.dir, c.S); err == api.OK {
			r.Stat, err = k.files.Stat(ino)
		}
	case api.SysList:
		r.List, err = k.list(p, c.S)
	case api.SysUnlink:
		err = k.files.Unlink(p.dir, c.S)
	case api.SysMkdir:
		err = k.files.Mkdir(p.dir, c.S, c.A&^p.mask)
	case api.SysRmdir:
		err = k.files.Rmdir(p.dir, c.S)
	case api.SysRename:
		err = k.files.Rename(p.dir, c.S, c.T)
	case api.SysLink:
		err = k.files.Link(p.dir, c.S, c.T)
	case api.SysChmod:
		var ino int
		if ino, err = k.files.Walk(p.dir, c.S); err == api.OK {
			err = k.files.Chmod(ino, c.A)
		}
	case api.SysPath:
		r.S, err = k.files.Path(p.dir)
	case api.SysGlob:
		r.List = glob.Paths(k.files, p.dir, c.P)
	}
	return r, err
}

func (k *Kernel) onProcess(p *process, c api.Call) (api.Result, api.Errno) {
	var r api.Result
	var err api.Errno
	switch c.No {
	case api.SysFork:
		r.N, err = k.fork(p)
	case api.SysExec:
		for _, n := range p.table.Exec() {
			k.letGo(n)
		}
	case api.SysExit:
		if p.number == first {
			return r, api.EPERM
		}
		k.end(p, c.A&255)
	case api.SysWait:
		r.N, r.M, err = k.wait(p, c.A)
	case api.SysChdir:
		err = k.chdir(p, c.S)
	case api.SysUmask:
		r.N, p.mask = p.mask, c.A&511
	case api.SysPid:
		r.N = p.number
	case api.SysTick:
	default:
		err = api.EINVAL
	}
	return r, err
}

func (k *Kernel) list(p *process, path string) ([]string, api.Errno) {
	ino, err := k.files.Walk(p.dir, path)
	if err != api.OK {
		return nil, err
	}
	names, err := k.files.List(ino)
	if err == api.OK && !k.files.May(ino, 4) {
		return nil, api.EACCES
	}
	return names, err
}

func (k *Kernel) chdir(p *process, path string) api.Errno {
	ino, err := k.files.Walk(p.dir, path)
	if err != api.OK {
		return err
	}
	if s, err := k.files.Stat(ino); err != api.OK || s.Kind != api.Dir {
		return api.ENOTDIR
	}
	if !k.files.May(ino, 1) {
		return api.EACCES
	}
	k.files.Hold(ino)
	k.files.Drop(p.dir)
	p.dir = ino
	return api.OK
}
