package eval

// What comes behind the command at hand.
const (
	next    = iota // the next one
	breaks         // what is behind a loop
	repeats        // a loop's next round
	returns        // what is behind a function's call, or .
	ends           // nothing
)

// flow is what comes next, and for how many loops around that holds.
type flow struct {
	to    int
	loops int
}

func (sh *shell) goesOn() bool {
	return sh.flow.to == next && !sh.Gone()
}

// end ends the shell with a status.
func (sh *shell) end(status int) {
	sh.flow = flow{to: ends}
	sh.status = status
}

// loopGoesOn tells, behind a condition or a body, whether the loop at hand has another round.
func (sh *shell) loopGoesOn() bool {
	if sh.flow.to != breaks && sh.flow.to != repeats {
		return sh.goesOn()
	}
	sh.flow.loops--
	if sh.flow.loops > 0 {
		return false
	}
	again := sh.flow.to == repeats
	sh.flow = flow{}
	return again
}
