package tests

import (
	"cmp"

	"shyard/api"
	"shyard/octet"
	"shyard/tool"
)

// holds tells whether what an operator says of two things is so; false, false of what is no operator.
func holds[T cmp.Ordered](a T, operator string, b T) (bool, bool) {
	switch operator {
	case "=":
		return a == b, true
	case "!=":
		return a != b, true
	case "<":
		return a < b, true
	case "<=":
		return a <= b, true
	case ">":
		return a > b, true
	case ">=":
		return a >= b, true
	}
	return false, false
}

// bothNumbers reads two numbers; false, if one of them is none.
func bothNumbers(a, b string) (int64, int64, bool) {
	x, ok := octet.Number(a)
	y, ok2 := octet.Number(b)
	return x, y, ok && ok2
}

func expr(r *tool.Run) int {
	said, ok := "", false
	switch len(r.Args) {
	case 1:
		said, ok = r.Args[0], true
	case 3:
		said, ok = worth(r.Args[0], r.Args[1], r.Args[2])
	}
	if !ok {
		return r.Usage()
	}
	r.SayLine(said)
	return statusIf(said != "" && said != "0")
}

// worth gives what an operator makes of two texts; false, if they aren't as told.
func worth(a, operator, b string) (string, bool) {
	x, y, numbers := bothNumbers(a, b)
	yes, known := holds(a, operator, b)
	if numbers {
		yes, known = holds(x, operator, y)
	}
	if known {
		return octet.Decimal(int64(1 - statusIf(yes))), true
	}
	if !numbers || (operator == "/" || operator == "%") && y == 0 {
		return "", false
	}
	n := int64(0)
	switch operator {
	case "+":
		n = x + y
	case "-":
		n = x - y
	case "*":
		n = x * y
	case "/":
		n = x / y
	case "%":
		n = x % y
	default:
		return "", false
	}
	return octet.Decimal(n), true
}

func test(r *tool.Run) int {
	return asked(r, r.Args)
}

func bracket(r *tool.Run) int {
	n := len(r.Args)
	if n == 0 || r.Args[n-1] != "]" {
		return r.Usage()
	}
	return asked(r, r.Args[:n-1])
}

func asked(r *tool.Run, l []string) int {
	yes, ok := isSo(r, l)
	if !ok {
		return r.Usage()
	}
	return statusIf(yes)
}

// isSo tells whether what is asked holds; false, false, if it can't be asked so.
func isSo(r *tool.Run, l []string) (bool, bool) {
	switch len(l) {
	case 0:
		return false, true
	case 1:
		return l[0] != "", true
	case 2:
		if l[0] != "!" {
			return one(r, l[0], l[1])
		}
	case 3:
		if yes, ok, known := two(l[0], l[1], l[2]); known {
			return yes, ok
		}
		if l[0] == "(" && l[2] == ")" {
			return l[1] != "", true
		}
	}
	if len(l) > 4 || l[0] != "!" {
		return false, false
	}
	yes, ok := isSo(r, l[1:])
	return ok && !yes, ok
}

// two asks of two texts; known tells whether there is such an operator.
func two(a, operator, b string) (yes, ok, known bool) {
	if operator == "=" || operator == "!=" {
		yes, _ = holds(a, operator, b)
		return yes, true, true
	}
	sign := ""
	switch operator {
	case "-eq":
		sign = "="
	case "-ne":
		sign = "!="
	case "-gt":
		sign = ">"
	case "-ge":
		sign = ">="
	case "-lt":
		sign = "<"
	case "-le":
		sign = "<="
	default:
		return false, false, false
	}
	x, y, numbers := bothNumbers(a, b)
	if !numbers {
		return false, false, true
	}
	yes, _ = holds(x, sign, y)
	return yes, true, true
}

// one asks of one text, or of a path.
func one(r *tool.Run, operator, a string) (bool, bool) {
	switch operator {
	case "-n":
		return a != "", true
	case "-z":
		return a == "", true
	case "-e", "-f", "-d", "-s", "-r", "-w", "-x":
		x := r.Ask(api.Call{No: api.SysStat, S: a})
		return x.Err == api.OK && isKind(operator, x.Stat), true
	}
	return false, false
}

func isKind(operator string, s api.Stat) bool {
	switch operator {
	case "-f":
		return s.Kind == api.File
	case "-d":
		return s.Kind == api.Dir
	case "-s":
		return s.Size > 0
	case "-r":
		return s.Mode&256 != 0
	case "-w":
		return s.Mode&128 != 0
	case "-x":
		return s.Mode&64 != 0
	}
	return true
}
