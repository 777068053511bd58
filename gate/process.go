package gate

import (
	"shyard/api"
)

// fork makes a process with the same descriptors, directory and mask.
func (k *Kernel) fork(p *process) (int, api.Errno) {
	if k.procs.count() >= api.MaxProcs {
		return 0, api.EAGAIN
	}
	child := &process{parent: p.number, table: p.table.Copy(), dir: p.dir, mask: p.mask}
	for _, n := range child.table.All() {
		k.descs.get(n).refs++
	}
	k.files.Hold(child.dir)
	child.number = k.procs.put(child)
	return child.number, api.OK
}

// end has a process wait to be waited for; its children come to the first process.
func (k *Kernel) end(p *process, status int) {
	for fd := range p.table.All() {
		k.close(p, fd)
	}
	k.files.Drop(p.dir)
	for _, child := range k.procs.all() {
		if child.parent == p.number {
			child.parent = first
		}
	}
	p.ended, p.status = true, status
}

// child gives the ended child of the least number among those that are asked for, or none.
func (k *Kernel) child(p *process, pid int) (*process, api.Errno) {
	err := api.ECHILD
	for n, child := range k.procs.all() {
		// The first process is its own parent, but not its own child.
		if child.parent != p.number || child == p || pid != -1 && pid != n {
			continue
		}
		if child.ended {
			return child, api.OK
		}
		err = api.OK
	}
	return nil, err
}

// wait takes an ended child away, and tells its number and its status.
func (k *Kernel) wait(p *process, pid int) (int, int, api.Errno) {
	child, err := k.child(p, pid)
	if child == nil {
		return 0, 0, err
	}
	k.procs.cut(child.number)
	return child.number, child.status, api.OK
}
