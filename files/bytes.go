package files

import (
	"shyard/api"
)

// file gives a file's inode.
func (f *FS) file(ino int) (*inode, api.Errno) {
	n := f.node(ino)
	if n == nil {
		return nil, api.EBADF
	}
	if n.isDir() {
		return nil, api.EISDIR
	}
	return n, api.OK
}

// Read gives a file's bytes from a place on.
func (f *FS) Read(ino, at, n int) (string, api.Errno) {
	file, err := f.file(ino)
	if err != api.OK {
		return "", err
	}
	if at < 0 || n < 0 {
		return "", api.EINVAL
	}
	left := file.data[min(at, len(file.data)):]
	return string(left[:min(n, len(left))]), api.OK
}

// Write lays bytes at a place of a file.
func (f *FS) Write(ino, at int, s string) (int, api.Errno) {
	file, err := f.file(ino)
	if err != api.OK {
		return 0, err
	}
	if at < 0 {
		return 0, api.EINVAL
	}
	size := len(file.data)
	if s != "" {
		size = max(size, min(at, api.MaxBytes)+len(s))
	}
	if at > api.MaxBytes || !f.hasRoom(file, size) {
		return 0, api.ENOSPC
	}
	file.resize(size)
	return copy(file.data[min(at, size):], s), api.OK
}

// Truncate cuts a file, or lays bytes 0 behind its end.
func (f *FS) Truncate(ino, n int) api.Errno {
	file, err := f.file(ino)
	if err != api.OK {
		return err
	}
	if n < 0 {
		return api.EINVAL
	}
	if n > api.MaxBytes || !f.hasRoom(file, n) {
		return api.ENOSPC
	}
	file.resize(n)
	return api.OK
}

// hasRoom tells whether a file may come to have a size.
func (f *FS) hasRoom(file *inode, size int) bool {
	return f.Bytes()-len(file.data)+size <= api.MaxBytes
}
