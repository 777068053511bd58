package files

import (
	"iter"
	"strings"

	"shyard/api"
)

const root = 1

// pieces gives what stands between the / of a path, empty ones let go.
func pieces(path string) iter.Seq[string] {
	return func(yield func(string) bool) {
		for path != "" {
			piece, rest, _ := strings.Cut(path, "/")
			if piece != "" && !yield(piece) {
				return
			}
			path = rest
		}
	}
}

// begin gives where the way along a path begins.
func begin(dir int, path string) (int, api.Errno) {
	switch {
	case path == "":
		return 0, api.ENOENT
	case len(path) > api.MaxPath:
		return 0, api.ETOOLONG
	case path[0] == '/':
		return root, api.OK
	}
	return dir, api.OK
}

func endsWithSlash(path string) bool {
	return strings.HasSuffix(path, "/")
}

// walk goes a path from a directory.
func (f *FS) walk(dir int, path string) (int, api.Errno) {
	at, err := begin(dir, path)
	if err != api.OK {
		return 0, err
	}
	for piece := range pieces(path) {
		at, err = f.step(at, piece)
		if err != api.OK {
			return 0, err
		}
	}
	if endsWithSlash(path) && !f.node(at).isDir() {
		return 0, api.ENOTDIR
	}
	return at, api.OK
}

// walkAhead goes a path up to the directory of its last piece.
func (f *FS) walkAhead(dir int, path string) (int, string, api.Errno) {
	at, err := begin(dir, path)
	if err != api.OK {
		return 0, "", err
	}
	last := ""
	for piece := range pieces(path) {
		if last != "" {
			at, err = f.step(at, last)
			if err != api.OK {
				return 0, "", err
			}
		}
		last = piece
	}
	if err := f.enter(at); err != api.OK {
		return 0, "", err
	}
	if last == "" || last == "." || last == ".." {
		return 0, "", api.EINVAL
	}
	if len(last) > api.MaxName {
		return 0, "", api.ETOOLONG
	}
	return at, last, api.OK
}

// enter asks whether something can be looked for at an inode.
func (f *FS) enter(at int) api.Errno {
	if !f.node(at).isDir() {
		return api.ENOTDIR
	}
	if !f.node(at).may(1) {
		return api.EACCES
	}
	return api.OK
}

func (f *FS) step(at int, piece string) (int, api.Errno) {
	if err := f.enter(at); err != api.OK {
		return 0, err
	}
	n := f.node(at)
	next := 0
	switch {
	case piece == ".":
		next = at
	case piece == "..":
		if n.links > 0 {
			next = n.parent
		}
	case len(piece) > api.MaxName:
		return 0, api.ETOOLONG
	default:
		next = n.lookup(piece)
	}
	if next == 0 {
		return 0, api.ENOENT
	}
	return next, api.OK
}
