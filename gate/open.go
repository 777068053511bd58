package gate

import (
	"shyard/api"
)

const allFlags = api.OpenRead | api.OpenWrite | api.OpenCreate | api.OpenNew | api.OpenCut | api.OpenAppend

func (k *Kernel) open(p *process, path string, flags, mode int) (int, api.Errno) {
	if flags&^allFlags != 0 || flags&(api.OpenRead|api.OpenWrite) == 0 {
		return 0, api.EINVAL
	}
	if p.table.Free() == 0 {
		return 0, api.EMFILE
	}
	ino, err := k.files.Walk(p.dir, path)
	switch {
	case err == api.ENOENT && flags&api.OpenCreate != 0:
		ino, err = k.files.Create(p.dir, path, mode&^p.mask)
	case err == api.OK:
		err = k.mayOpen(ino, flags)
	}
	if err != api.OK {
		return 0, err
	}
	if flags&api.OpenCut != 0 && flags&api.OpenWrite != 0 {
		k.files.Truncate(ino, 0)
	}
	k.files.Hold(ino)
	return k.install(p, &description{kind: api.DescFile, n: ino, flags: flags}), api.OK
}

// mayOpen asks whether what was there may be opened so.
func (k *Kernel) mayOpen(ino, flags int) api.Errno {
	s, _ := k.files.Stat(ino)
	switch {
	case flags&api.OpenCreate != 0 && flags&api.OpenNew != 0:
		return api.EEXIST
	case s.Kind == api.Dir:
		return api.EISDIR
	case flags&api.OpenRead != 0 && !k.files.May(ino, 4):
		return api.EACCES
	case flags&api.OpenWrite != 0 && !k.files.May(ino, 2):
		return api.EACCES
	}
	return api.OK
}
