package eval

import (
	"slices"

	"shyard/api"
)

// save is a descriptor that is redirected, and where what it named is kept (-1: it named nothing).
type save struct {
	fd, at int
}

// redirect makes redirections, in order; false, if the command isn't to be run.
// What has been redirected is to be restored, if it is kept.
func (sh *shell) redirect(l []api.Redir, keep bool) ([]save, bool) {
	var saves []save
	for _, r := range l {
		fd := target(r)
		text, ok := sh.meant(r)
		if !ok {
			return nil, false
		}
		err := api.OK
		if keep && !slices.ContainsFunc(saves, func(s save) bool { return s.fd == fd }) {
			var s save
			if s, err = sh.save(fd); err == api.OK {
				saves = append(saves, s)
			}
		}
		if err == api.OK {
			err = sh.turn(r, fd, text)
		}
		if err != api.OK {
			if r.Op == "<<" {
				text = "" // a body isn't a word
			}
			sh.complain(text, err)
			sh.restore(saves)
			sh.status = 1
			return nil, false
		}
	}
	return saves, true
}

// target gives the descriptor that is redirected.
func target(r api.Redir) int {
	switch {
	case r.Fd >= 0:
		return r.Fd
	case r.Op[0] == '<':
		return 0
	}
	return 1
}

// meant gives what a redirection's word is expanded to, or a here-document's body.
func (sh *shell) meant(r api.Redir) (string, bool) {
	switch {
	case r.Op != "<<":
		return sh.one(r.Word, 0)
	case r.Raw:
		return r.Doc, true
	}
	return sh.one(r.Doc, 2)
}

// turn has a descriptor name what a redirection tells.
func (sh *shell) turn(r api.Redir, fd int, text string) api.Errno {
	const made = 438
	c := api.Call{No: api.SysOpen, S: text, B: made}
	switch r.Op {
	case "<&", ">&":
		return sh.same(fd, text)
	case "<<":
		c = api.Call{No: api.SysText, S: text}
	case "<":
		c.A = api.OpenRead
	case ">", ">|":
		c.A = api.OpenWrite | api.OpenCreate | api.OpenCut
	case ">>":
		c.A = api.OpenWrite | api.OpenCreate | api.OpenAppend
	case "<>":
		c.A = api.OpenRead | api.OpenWrite | api.OpenCreate
	}
	x := sh.Ask(c)
	if x.Err == api.OK {
		sh.move(x.N, fd)
	}
	return x.Err
}

// same closes a descriptor, or has it name what another one names.
func (sh *shell) same(fd int, text string) api.Errno {
	switch {
	case text == "-":
		sh.Close(fd)
		return api.OK
	case len(text) != 1 || text[0] < '0' || text[0] > '9':
		return api.EBADF
	}
	return sh.Ask(api.Call{No: api.SysDup2, A: int(text[0] - '0'), B: fd}).Err
}

func (sh *shell) save(fd int) (save, api.Errno) {
	x := sh.Ask(api.Call{No: api.SysDup, A: fd, B: own})
	switch x.Err {
	case api.OK:
		sh.saved = append(sh.saved, x.N)
		return save{fd, x.N}, api.OK
	case api.EBADF:
		return save{fd, -1}, api.OK
	}
	return save{}, x.Err
}

// restore has the descriptors name what they have named before.
func (sh *shell) restore(saves []save) {
	if sh.flow.to == ends {
		return
	}
	for _, s := range slices.Backward(saves) {
		if s.at < 0 {
			sh.Close(s.fd)
		} else {
			sh.move(s.at, s.fd)
			sh.forget(s.at)
		}
	}
}

// settle lets go what was kept: the redirections stay.
func (sh *shell) settle(saves []save) {
	for _, s := range saves {
		if s.at >= 0 {
			sh.Close(s.at)
			sh.forget(s.at)
		}
	}
}

func (sh *shell) forget(at int) {
	sh.saved = slices.DeleteFunc(sh.saved, func(fd int) bool { return fd == at })
}

// closeSaved lets go what was kept to be restored: a child, or another program, doesn't restore it.
func (sh *shell) closeSaved() {
	for _, fd := range sh.saved {
		sh.Close(fd)
	}
	sh.saved = nil
}
