package files

import (
	"shyard/api"
)

// Create makes an empty file, and gives its number.
func (f *FS) Create(dir int, path string, mode int) (int, api.Errno) {
	if !f.isDir(dir) {
		return 0, api.EBADF
	}
	at, name, err := f.walkAhead(dir, path)
	if err != api.OK {
		return 0, err
	}
	if endsWithSlash(path) {
		return 0, api.EISDIR
	}
	return f.make(at, name, inode{kind: api.File, mode: mode & 511})
}

// Mkdir makes a directory.
func (f *FS) Mkdir(dir int, path string, mode int) api.Errno {
	if !f.isDir(dir) {
		return api.EBADF
	}
	at, name, err := f.walkAhead(dir, path)
	if err != api.OK {
		return err
	}
	_, err = f.make(at, name, inode{kind: api.Dir, mode: mode & 511, parent: at})
	return err
}

// make lays a new inode in a directory.
func (f *FS) make(at int, name string, n inode) (int, api.Errno) {
	if err := f.mayAdd(at, name); err != api.OK {
		return 0, err
	}
	if f.Count() >= api.MaxInodes {
		return 0, api.ENFILE
	}
	n.links = 1
	ino := f.nodes.put(n)
	f.node(at).add(name, ino)
	return ino, api.OK
}

// mayAdd asks whether a directory may have a new entry of that name.
func (f *FS) mayAdd(at int, name string) api.Errno {
	n := f.node(at)
	switch {
	case n.lookup(name) != 0:
		return api.EEXIST
	case n.links == 0:
		return api.ENOENT
	case !n.may(2):
		return api.EACCES
	}
	return api.OK
}

// unlink takes away what an entry has named.
func (f *FS) unlink(at int, name string) {
	ino := f.node(at).lookup(name)
	f.node(at).remove(name)
	f.node(ino).links--
	f.release(ino)
}

// Unlink takes a file's entry away.
func (f *FS) Unlink(dir int, path string) api.Errno {
	at, name, n, err := f.named(dir, path)
	switch {
	case err != api.OK:
		return err
	case endsWithSlash(path) && !n.isDir():
		return api.ENOTDIR
	case n.isDir():
		return api.EISDIR
	case !f.node(at).may(2):
		return api.EACCES
	}
	f.unlink(at, name)
	return api.OK
}

// Rmdir takes an empty directory away.
func (f *FS) Rmdir(dir int, path string) api.Errno {
	at, name, n, err := f.named(dir, path)
	switch {
	case err != api.OK:
		return err
	case !n.isDir():
		return api.ENOTDIR
	case len(n.entries) > 0:
		return api.ENOTEMPTY
	case !f.node(at).may(2):
		return api.EACCES
	}
	f.unlink(at, name)
	return api.OK
}

// named gives a path's last directory, its last piece, and what is there.
func (f *FS) named(dir int, path string) (int, string, *inode, api.Errno) {
	if !f.isDir(dir) {
		return 0, "", nil, api.EBADF
	}
	at, name, err := f.walkAhead(dir, path)
	if err != api.OK {
		return 0, "", nil, err
	}
	ino := f.node(at).lookup(name)
	if ino == 0 {
		return 0, "", nil, api.ENOENT
	}
	return at, name, f.node(ino), api.OK
}

// Link has a second entry name a file.
func (f *FS) Link(dir int, from, to string) api.Errno {
	ino, err := f.Walk(dir, from)
	if err != api.OK {
		return err
	}
	if f.isDir(ino) {
		return api.EISDIR
	}
	at, name, err := f.walkAhead(dir, to)
	if err != api.OK {
		return err
	}
	if endsWithSlash(to) {
		return api.EISDIR
	}
	if err := f.mayAdd(at, name); err != api.OK {
		return err
	}
	f.node(at).add(name, ino)
	f.node(ino).links++
	return api.OK
}

// Rename has an entry name what another one has named.
func (f *FS) Rename(dir int, from, to string) api.Errno {
	at, name, n, err := f.named(dir, from)
	if err != api.OK {
		return err
	}
	if endsWithSlash(from) && !n.isDir() {
		return api.ENOTDIR
	}
	target, newName, err := f.walkAhead(dir, to)
	switch {
	case err != api.OK:
		return err
	case endsWithSlash(to) && !n.isDir():
		return api.ENOTDIR
	case f.node(target).links == 0:
		return api.ENOENT
	case !f.node(at).may(2) || !f.node(target).may(2):
		return api.EACCES
	}
	ino, old := f.node(at).lookup(name), f.node(target).lookup(newName)
	if ino == old {
		return api.OK
	}
	if err := f.mayReplace(ino, old, target); err != api.OK {
		return err
	}
	if old != 0 {
		f.unlink(target, newName)
	}
	f.node(at).remove(name)
	f.node(target).add(newName, ino)
	n.parent = target
	return api.OK
}

// mayReplace asks whether an inode may come to a directory, in the place of an old one (0: of none).
func (f *FS) mayReplace(ino, old, target int) api.Errno {
	isDir := f.isDir(ino)
	switch {
	case old != 0 && isDir && !f.isDir(old):
		return api.ENOTDIR
	case old != 0 && !isDir && f.isDir(old):
		return api.EISDIR
	case isDir && f.holds(ino, target):
		return api.EINVAL
	case old != 0 && len(f.node(old).entries) > 0:
		return api.ENOTEMPTY
	}
	return api.OK
}

// holds tells whether a directory is another one, or holds it at any depth.
func (f *FS) holds(ino, inner int) bool {
	for inner != ino && inner != root {
		inner = f.node(inner).parent
	}
	return inner == ino
}
