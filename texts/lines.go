package texts

import (
	"slices"
	"strings"

	"shyard/octet"
	"shyard/tool"
)

func head(r *tool.Run) int {
	return ofLines(r, func(l []string, n int) []string { return l[:n] })
}

func tail(r *tool.Run) int {
	return ofLines(r, func(l []string, n int) []string { return l[len(l)-n:] })
}

// ofLines says some of the lines as they stand: which, is told by their list and how many may be said.
func ofLines(r *tool.Run, which func(l []string, n int) []string) int {
	options, operands, ok := r.Options("", "n")
	n := int64(10)
	for _, o := range options {
		var isNumber bool
		n, isNumber = number(o.Value)
		ok = ok && isNumber
	}
	if !ok {
		return r.Usage()
	}
	return overOne(r, operands, func(text string) {
		l := slices.Collect(octet.Lines(text))
		for _, line := range which(l, int(min(n, int64(len(l))))) {
			r.Say(line)
		}
	})
}

func sorted(r *tool.Run) int {
	options, operands, ok := r.Options("rnu", "")
	if !ok {
		return r.Usage()
	}
	return overOne(r, operands, func(text string) {
		l := slices.Collect(lines(text))
		slices.SortFunc(l, order(tool.Given(options, 'n')))
		if tool.Given(options, 'u') {
			l = slices.Compact(l)
		}
		if tool.Given(options, 'r') {
			slices.Reverse(l)
		}
		for _, line := range l {
			r.SayLine(line)
		}
	})
}

// order gives the order of lines: by their bytes, or by their numbers first.
func order(numbers bool) func(a, b string) int {
	if !numbers {
		return strings.Compare
	}
	return func(a, b string) int {
		x, _ := octet.Number(a)
		y, _ := octet.Number(b)
		switch {
		case x < y:
			return -1
		case x > y:
			return 1
		}
		return strings.Compare(a, b)
	}
}

func uniq(r *tool.Run) int {
	options, operands, ok := r.Options("c", "")
	if !ok {
		return r.Usage()
	}
	return overOne(r, operands, func(text string) {
		last, count := "", 0
		say := func() {
			if len(options) > 0 {
				r.Say(octet.Decimal(int64(count)) + " ")
			}
			r.SayLine(last)
		}
		for line := range lines(text) {
			if count > 0 && line != last {
				say()
				count = 0
			}
			last = line
			count++
		}
		if count > 0 {
			say()
		}
	})
}

func grep(r *tool.Run) int {
	options, operands, ok := r.Options("vc", "")
	if !ok || len(operands) == 0 || len(operands) > 2 {
		return r.Usage()
	}
	path, _ := only(operands[1:])
	text, wasRead := r.File(path)
	count := 0
	counts := tool.Given(options, 'c')
	for line := range lines(text) {
		if strings.Contains(line, operands[0]) == tool.Given(options, 'v') {
			continue
		}
		count++
		if !counts {
			r.SayLine(line)
		}
	}
	if counts {
		r.SayLine(octet.Decimal(int64(count)))
	}
	switch {
	case !wasRead:
		return 2
	case count == 0:
		return 1
	}
	return 0
}

func cut(r *tool.Run) int {
	options, operands, ok := r.Options("", "df")
	between, field := "\t", int64(0)
	for _, o := range options {
		if o.Letter == 'd' {
			between = o.Value
			ok = ok && len(between) == 1
			continue
		}
		var isNumber bool
		field, isNumber = number(o.Value)
		ok = ok && isNumber && field > 0
	}
	if !ok || field == 0 {
		return r.Usage()
	}
	return overOne(r, operands, func(text string) {
		for line := range lines(text) {
			r.SayLine(piece(line, between, field))
		}
	})
}

// piece gives the piece of that number, from 1 on; the whole line, if it has no pieces.
func piece(line, between string, number int64) string {
	l := strings.Split(line, between)
	switch {
	case len(l) == 1:
		return line
	case number > int64(len(l)):
		return ""
	}
	return l[number-1]
}

func rev(r *tool.Run) int {
	return overLines(r, func(line string) string {
		l := []byte(line)
		slices.Reverse(l)
		return string(l)
	})
}

func nl(r *tool.Run) int {
	n := int64(0)
	return overLines(r, func(line string) string {
		n++
		return octet.Decimal(n) + "\t" + line
	})
}
