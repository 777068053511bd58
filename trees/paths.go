package trees

import (
	"strings"

	"shyard/api"
	"shyard/tool"
)

func withoutSlashes(path string) string {
	return strings.TrimRight(path, "/")
}

// ahead gives how many bytes stand ahead of a path's base, which has no / at its end.
func ahead(path string) int {
	return strings.LastIndexByte(path, '/') + 1
}

// base gives what stands behind the last / of a path that doesn't end with one.
func base(path string) string {
	bare := withoutSlashes(path)
	if bare == "" && path != "" {
		return "/"
	}
	return bare[ahead(bare):]
}

func pwd(r *tool.Run) int {
	if _, ok := operands(r, 0, 0); !ok {
		return r.Usage()
	}
	x := r.Ask(api.Call{No: api.SysPath})
	if x.Err != api.OK {
		r.Complain(".", x.Err)
		return 1
	}
	r.SayLine(x.S)
	return 0
}

func basename(r *tool.Run) int {
	l, ok := operands(r, 1, 2)
	if !ok {
		return r.Usage()
	}
	name := base(l[0])
	if len(l) == 2 && name != l[1] {
		name = strings.TrimSuffix(name, l[1])
	}
	r.SayLine(name)
	return 0
}

func dirname(r *tool.Run) int {
	l, ok := operands(r, 1, 1)
	if !ok {
		return r.Usage()
	}
	bare := withoutSlashes(l[0])
	dir := bare[:ahead(bare)]
	switch {
	case bare == "" && l[0] != "":
		dir = "/"
	case dir == "":
		dir = "."
	case withoutSlashes(dir) == "":
		dir = "/"
	default:
		dir = withoutSlashes(dir)
	}
	r.SayLine(dir)
	return 0
}
