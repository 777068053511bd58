package turn

import (
	"iter"
	"slices"

	"shyard/api"
)

// machine goes through what asks, as often as is needed, from its beginning:
// what it was answered is kept, and answered again.
type machine[Q, A any] struct {
	questions iter.Seq2[Q, func(A)] // each with where its answer is laid
	answers   []A
}

// goOn has each question that wasn't answered yet answered, until that stops;
// false, if there are no more questions.
func (m *machine[Q, A]) goOn(answer func(Q) (A, bool)) bool {
	n := 0
	for question, lay := range m.questions {
		if n == len(m.answers) {
			a, answered := answer(question)
			if !answered {
				return true
			}
			m.answers = append(m.answers, a)
		}
		lay(m.answers[n])
		n++
	}
	return false
}

// question is a call, and the program that the child of a fork has.
type question struct {
	call  api.Call
	child iter.Seq[*api.Ask]
}

// questions gives what a program asks, and, when it has come to its end, that it ends.
func questions(p iter.Seq[*api.Ask]) iter.Seq2[question, func(api.Result)] {
	return func(yield func(question, func(api.Result)) bool) {
		stopped := false
		through(p, func(a *api.Ask) bool {
			lay := func(r api.Result) { a.Result = cloneResult(r) }
			stopped = stopped || !yield(question{a.Call, a.Child}, lay)
			return !stopped
		})
		if !stopped {
			yield(question{call: api.Call{No: api.SysExit}}, func(api.Result) {})
		}
	}
}

// through ranges over a program. One that panics is at its end: the others' turns go on.
func through(p iter.Seq[*api.Ask], each func(*api.Ask) bool) {
	defer func() { recover() }()
	if p == nil {
		return
	}
	for a := range p {
		if a == nil {
			a = &api.Ask{}
		}
		if !each(a) {
			return
		}
	}
}

func cloneCall(c api.Call) api.Call {
	c.P = slices.Clone(c.P)
	return c
}

func cloneResult(r api.Result) api.Result {
	r.List = slices.Clone(r.List)
	return r
}
