package gate

import (
	"shyard/api"
	"shyard/pipe"
)

// description is what descriptors name: where something is read or written.
type description struct {
	kind, n, at, refs int
	flags             int        // of a file, as it was opened
	pipe              *pipe.Pipe // nil, if it is no end of one
	text              string
}

func (d *description) mayRead() bool {
	switch d.kind {
	case api.DescConsole:
		return d.n == 0
	case api.DescFile:
		return d.flags&api.OpenRead != 0
	}
	return d.kind == api.DescRead || d.kind == api.DescText
}

func (d *description) mayWrite() bool {
	switch d.kind {
	case api.DescConsole:
		return d.n != 0
	case api.DescFile:
		return d.flags&api.OpenWrite != 0
	}
	return d.kind == api.DescWrite
}

// named gives the description that a descriptor names; nil without one.
func (k *Kernel) named(p *process, fd int) *description {
	n, err := p.table.Get(fd)
	if err != api.OK {
		return nil
	}
	return k.descs.get(n)
}

func (k *Kernel) readable(p *process, fd int) *description {
	if d := k.named(p, fd); d != nil && d.mayRead() {
		return d
	}
	return nil
}

func (k *Kernel) writable(p *process, fd int) *description {
	if d := k.named(p, fd); d != nil && d.mayWrite() {
		return d
	}
	return nil
}

// install gives a new description to the least free descriptor; there must be one.
func (k *Kernel) install(p *process, d *description) int {
	d.refs = 1
	fd, _ := p.table.Put(k.descs.put(d), 0)
	return fd
}

// letGo has one descriptor less name a description, which goes with the last one.
func (k *Kernel) letGo(n int) {
	d := k.descs.get(n)
	d.refs--
	if d.refs > 0 {
		return
	}
	k.descs.cut(n)
	switch d.kind {
	case api.DescFile:
		k.files.Drop(d.n)
	case api.DescRead, api.DescWrite:
		d.pipe.Close(d.kind == api.DescWrite)
		if readers, writers := d.pipe.Ends(); readers+writers == 0 {
			k.pipes.cut(d.n)
		}
	}
}

func (k *Kernel) read(p *process, fd, n int) (string, api.Errno) {
	d := k.readable(p, fd)
	if d == nil {
		return "", api.EBADF
	}
	if n < 0 {
		return "", api.EINVAL
	}
	var s string
	var err api.Errno
	switch d.kind {
	case api.DescConsole:
		s = k.typed[:min(n, len(k.typed))]
		k.typed = k.typed[len(s):]
	case api.DescFile:
		s, err = k.files.Read(d.n, d.at, n)
		d.at += len(s)
	case api.DescText:
		s = d.text[d.at:min(d.at+min(n, len(d.text)), len(d.text))]
		d.at += len(s)
	default:
		s, err = d.pipe.Read(n)
	}
	return s, err
}

func (k *Kernel) write(p *process, fd int, s string) (int, api.Errno) {
	d := k.writable(p, fd)
	if d == nil {
		return 0, api.EBADF
	}
	switch d.kind {
	case api.DescConsole:
		k.outputs[d.n-1] = append(k.outputs[d.n-1], s...)
		return len(s), api.OK
	case api.DescFile:
		return k.writeFile(d, s)
	}
	n, err := d.pipe.Write(s)
	if err == api.EPIPE && p.number != first {
		k.end(p, brokenPipe)
	}
	return n, err
}

// brokenPipe is the status of a process that has written where nobody reads.
const brokenPipe = 141

func (k *Kernel) writeFile(d *description, s string) (int, api.Errno) {
	at := d.at
	if d.flags&api.OpenAppend != 0 {
		stat, _ := k.files.Stat(d.n)
		at = stat.Size
	}
	n, err := k.files.Write(d.n, at, s)
	if err == api.OK {
		d.at = at + n
	}
	return n, err
}

func (k *Kernel) close(p *process, fd int) api.Errno {
	n, err := p.table.Cut(fd)
	if err == api.OK {
		k.letGo(n)
	}
	return err
}

func (k *Kernel) dup(p *process, fd, least int) (int, api.Errno) {
	n, err := p.table.Get(fd)
	if err != api.OK {
		return 0, err
	}
	other, err := p.table.Put(n, least)
	if err == api.OK {
		k.descs.get(n).refs++
	}
	return other, err
}

func (k *Kernel) dup2(p *process, fd, other int) (int, api.Errno) {
	n, err := p.table.Get(fd)
	if err != api.OK || fd == other {
		return other, err
	}
	old, had, err := p.table.Set(other, n)
	if err != api.OK {
		return 0, err
	}
	k.descs.get(n).refs++
	if had {
		k.letGo(old)
	}
	return other, api.OK
}

func (k *Kernel) newPipe(p *process) (int, int, api.Errno) {
	if p.table.Free() < 2 {
		return 0, 0, api.EMFILE
	}
	x, _ := pipe.New(api.PipeSize)
	x.Open(false)
	x.Open(true)
	n := k.pipes.put(x)
	reads := k.install(p, &description{kind: api.DescRead, n: n, pipe: x})
	writes := k.install(p, &description{kind: api.DescWrite, n: n, pipe: x})
	return reads, writes, api.OK
}

func (k *Kernel) text(p *process, s string) (int, api.Errno) {
	if p.table.Free() == 0 {
		return 0, api.EMFILE
	}
	return k.install(p, &description{kind: api.DescText, text: s}), api.OK
}

func (k *Kernel) truncate(p *process, fd, size int) api.Errno {
	d := k.writable(p, fd)
	switch {
	case d == nil:
		return api.EBADF
	case d.kind != api.DescFile:
		return api.EINVAL
	}
	return k.files.Truncate(d.n, size)
}
