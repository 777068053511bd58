package arith

import (
	"strings"

	"shyard/api"
)

// numbers makes numbers, and keeps what is assigned.
type numbers struct {
	texts map[string]int // where in vars a name stands first
	vars  []api.Var
	now   map[string]int64 // what was assigned last
	sets  []api.Set
}

func newNumbers(vars []api.Var) *numbers {
	n := &numbers{texts: map[string]int{}, vars: vars, now: map[string]int64{}}
	for i, v := range vars {
		if _, there := n.texts[v.Name]; !there {
			n.texts[v.Name] = i
		}
	}
	return n
}

func (n *numbers) number(x int64) int64 {
	return x
}

func (n *numbers) truth(x int64) bool {
	return x != 0
}

func (n *numbers) assign(name string, x int64) {
	n.now[name] = x
	n.sets = append(n.sets, api.Set{Name: name, Value: x})
}

func (n *numbers) value(name string) (int64, api.Errno) {
	if x, there := n.now[name]; there {
		return x, api.OK
	}
	i, there := n.texts[name]
	if !there {
		return 0, api.OK
	}
	return worth(n.vars[i].Value)
}

// worth gives the number that a variable's text is.
func worth(text string) (int64, api.Errno) {
	text = strings.Trim(text, "\t\n ")
	if text == "" {
		return 0, api.OK
	}
	digits := text
	if text[0] == '+' || text[0] == '-' {
		digits = text[1:]
	}
	x, size := number(digits)
	if size == 0 || size < len(digits) {
		return 0, api.ErrArith
	}
	if text[0] == '-' {
		x = -x
	}
	return x, api.OK
}

func (n *numbers) ahead(operator string, x int64) int64 {
	switch operator {
	case "-":
		return -x
	case "~":
		return ^x
	case "!":
		return oneIf(x == 0)
	}
	return x
}

func (n *numbers) between(operator string, x, y int64) (int64, api.Errno) {
	switch operator {
	case "/", "%":
		return divide(operator, x, y)
	case "==", "!=", "<", "<=", ">", ">=":
		return compare(operator, x, y), api.OK
	case "+":
		return x + y, api.OK
	case "-":
		return x - y, api.OK
	case "*":
		return x * y, api.OK
	case "|":
		return x | y, api.OK
	case "^":
		return x ^ y, api.OK
	case "&":
		return x & y, api.OK
	case "<<":
		return x << (uint64(y) % 64), api.OK
	}
	return x >> (uint64(y) % 64), api.OK
}

func divide(operator string, x, y int64) (int64, api.Errno) {
	if y == 0 {
		return 0, api.ErrZero
	}
	// The language has the least number divided by -1 wrap, as is asked for.
	if operator == "/" {
		return x / y, api.OK
	}
	return x % y, api.OK
}

func compare(operator string, x, y int64) int64 {
	switch operator {
	case "==":
		return oneIf(x == y)
	case "!=":
		return oneIf(x != y)
	case "<":
		return oneIf(x < y)
	case "<=":
		return oneIf(x <= y)
	case ">":
		return oneIf(x > y)
	}
	return oneIf(x >= y)
}

func oneIf(yes bool) int64 {
	if yes {
		return 1
	}
	return 0
}
