package shell

import (
	"slices"
	"strings"

	"shyard/api"
	"shyard/files"
)

const (
	root = 1
	mode = 493
)

// lay lays one file, with the directories on its path that aren't there.
func lay(f *files.FS, p api.Pair) api.Errno {
	pieces, err := piecesOf(p.Path)
	if err != api.OK {
		return err
	}
	// From the root without a / ahead: so the path is never longer than it was.
	if _, err := f.Walk(root, strings.Join(pieces, "/")); err == api.OK {
		return api.ErrTwice
	}
	last := len(pieces) - 1
	at := root
	for _, piece := range pieces[:last] {
		if at, err = descend(f, at, piece); err != api.OK {
			return err
		}
	}
	ino, err := f.Create(at, pieces[last], mode)
	if err != api.OK {
		return refusal(err)
	}
	if _, err = f.Write(ino, 0, p.Data); err != api.OK {
		f.Unlink(at, pieces[last])
	}
	return err
}

// piecesOf gives what stands between the / of a path.
func piecesOf(path string) ([]string, api.Errno) {
	pieces := slices.DeleteFunc(strings.Split(path, "/"), func(s string) bool { return s == "" })
	isDots := func(s string) bool { return s == "." || s == ".." }
	isLong := func(s string) bool { return len(s) > api.MaxName }
	switch {
	case len(pieces) == 0, slices.ContainsFunc(pieces, isDots), strings.HasSuffix(path, "/"):
		return nil, api.ErrBoot
	case len(path) > api.MaxPath, slices.ContainsFunc(pieces, isLong):
		return nil, api.ETOOLONG
	}
	return pieces, api.OK
}

// descend gives the directory of a name, which is made if it isn't there.
func descend(f *files.FS, at int, name string) (int, api.Errno) {
	next, err := f.Walk(at, name)
	if err == api.ENOENT {
		if err = f.Mkdir(at, name, mode); err == api.OK {
			next, err = f.Walk(at, name)
		}
	}
	if err != api.OK {
		return 0, refusal(err)
	}
	if s, _ := f.Stat(next); s.Kind != api.Dir {
		return 0, api.ErrBoot
	}
	return next, api.OK
}

// refusal gives what a path that can't be gone or made is told as.
func refusal(err api.Errno) api.Errno {
	if err == api.ENFILE {
		return err
	}
	return api.ErrBoot
}
