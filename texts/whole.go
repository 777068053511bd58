package texts

import (
	"shyard/api"
	"shyard/octet"
	"shyard/tool"
)

func cat(r *tool.Run) int {
	_, operands, ok := r.Options("", "")
	if !ok {
		return r.Usage()
	}
	if len(operands) == 0 {
		operands = []string{"-"}
	}
	status := 0
	for _, path := range operands {
		text, ok := r.File(path)
		if !ok {
			status = 1
		}
		r.Say(text)
		r.Flush() // the next file may be the one that is written to
	}
	return status
}

// tee says its input ahead of opening the files, in the order that is told.
func tee(r *tool.Run) int {
	options, operands, ok := r.Options("a", "")
	if !ok {
		return r.Usage()
	}
	text, ok := r.File("-")
	r.Say(text)
	r.Flush()
	status := 0
	if !ok {
		status = 1
	}
	how := api.OpenCut
	if tool.Given(options, 'a') {
		how = api.OpenAppend
	}
	for _, path := range operands {
		if err := r.WriteFile(path, text, how, 438); err != api.OK {
			r.Complain(path, err)
			status = 1
		}
	}
	return status
}

func cmp(r *tool.Run) int {
	_, operands, ok := r.Options("", "")
	if !ok || len(operands) != 2 {
		return r.Usage()
	}
	const unread = 2
	a, ok := r.File(operands[0])
	if !ok {
		// The input is read up to its end, whatever the other file was.
		if operands[1] == "-" {
			r.Read("-")
		}
		return unread
	}
	b, ok := r.File(operands[1])
	if !ok {
		return unread
	}
	if a == b {
		return 0
	}
	r.SayLine(operands[0] + " " + operands[1] + " differ")
	return 1
}

func wc(r *tool.Run) int {
	options, operands, ok := r.Options("lwc", "")
	if !ok {
		return r.Usage()
	}
	return overOne(r, operands, func(text string) {
		said := ""
		for i, n := range counts(text) {
			if len(options) == 0 || tool.Given(options, "lwc"[i]) {
				if said != "" {
					said += " "
				}
				said += octet.Decimal(int64(n))
			}
		}
		r.SayLine(said)
	})
}

// counts gives how many bytes 10, words and bytes a text has.
func counts(text string) [3]int {
	n := [3]int{2: len(text)}
	within := false
	for i := range len(text) {
		if text[i] == '\n' {
			n[0]++
		}
		blank := text[i] >= 9 && text[i] <= 13 || text[i] == ' '
		if !blank && !within {
			n[1]++
		}
		within = !blank
	}
	return n
}

func tr(r *tool.Run) int {
	options, operands, ok := r.Options("d", "")
	deletes := len(options) > 0
	if !ok || deletes && len(operands) != 1 || !deletes && len(operands) != 2 {
		return r.Usage()
	}
	from := set(operands[0])
	to := []byte{}
	if !deletes {
		to = set(operands[1])
		if len(to) == 0 && len(from) > 0 {
			return r.Usage()
		}
	}
	text, ok := r.File("-")
	if !ok {
		return 1
	}
	r.Say(turned(text, from, to))
	return 0
}

// set gives the bytes of a set: those that are written, and those of its spans.
func set(s string) []byte {
	var l []byte
	for i := 0; i < len(s); i++ {
		if i+2 < len(s) && s[i+1] == '-' {
			for b := int(s[i]); b <= int(s[i+2]); b++ {
				l = append(l, byte(b))
			}
			i += 2
			continue
		}
		l = append(l, s[i])
	}
	return l
}

// turned gives the text with bytes of the one set turned to those of the other; without them, if that has none.
func turned(text string, from, to []byte) string {
	var places [256]int // of each byte the first place in from, from 1 on
	for i, b := range from {
		if places[b] == 0 {
			places[b] = i + 1
		}
	}
	l := make([]byte, 0, len(text))
	for i := range len(text) {
		switch place := places[text[i]]; {
		case place == 0:
			l = append(l, text[i])
		case len(to) > 0:
			l = append(l, to[min(place, len(to))-1])
		}
	}
	return string(l)
}
