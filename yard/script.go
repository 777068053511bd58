package yard

import (
	"math"
	"strings"

	"shyard/api"
	"shyard/octet"
)

// Script answers the lines of a script, taken by a new yard.
func Script(pairs []api.Pair, text string, args []string, script string) (string, api.Errno) {
	if len(script) > api.MaxText {
		return "", api.ErrText
	}
	y, _, err := New(pairs, text, args)
	if err != api.OK {
		return "", err
	}
	r := &reader{yard: y}
	var answers strings.Builder
	for line := range octet.Lines(script) {
		words := wordsOf(strings.TrimSuffix(line, "\n"))
		if len(words) == 0 || strings.HasPrefix(words[0], "#") {
			continue
		}
		answers.WriteString(r.answer(words))
		answers.WriteByte('\n')
	}
	return answers.String(), api.OK
}

// wordsOf gives what stands between the blanks of a line.
func wordsOf(line string) []string {
	var l []string
	for word := range strings.SplitSeq(line, " ") {
		if word != "" {
			l = append(l, word)
		}
	}
	return l
}

// tail keeps how much of a list that grows was told.
type tail[T any] struct {
	told int
}

// fresh gives what is new of a list since it was asked last.
func fresh[T any](t *tail[T], l []T) []T {
	l = l[min(t.told, len(l)):]
	t.told += len(l)
	return l
}

// reader takes the lines of a script one by one.
type reader struct {
	yard     *Yard
	out, err tail[byte]
	reaped   tail[api.Exit]
}

// answer gives the answer of a line of these words.
func (r *reader) answer(words []string) string {
	switch {
	case len(words) == 1:
		if s, known := r.told(words[0]); known {
			return s
		}
	case len(words) == 2 && words[0] == "type":
		if s, ok := readBytes(words[1]); ok {
			return okOr(r.yard.Do(api.Step{Kind: api.StepType, S: s}).Err)
		}
	case len(words) == 3 && words[0] == "pick":
		raw, ok := readInt(words[1])
		fuel, ok2 := readInt(words[2])
		if ok && ok2 {
			seen := r.yard.Do(api.Step{Kind: api.StepPick, Raw: raw, Fuel: fuel})
			return decimal(seen.Pid) + " " + decimal(seen.N)
		}
	}
	return okOr(api.ErrArg)
}

// told answers a line of one word; false, if there is no such line.
func (r *reader) told(word string) (string, bool) {
	switch word {
	case "end":
		return okOr(r.yard.Do(api.Step{Kind: api.StepEnd}).Err), true
	case "out":
		return writeBytes(fresh(&r.out, []byte(r.yard.Out(1)))), true
	case "err":
		return writeBytes(fresh(&r.err, []byte(r.yard.Out(2)))), true
	case "reaped":
		return joined(fresh(&r.reaped, r.yard.Reaped()), func(e api.Exit) string {
			return decimal(e.Pid) + ":" + decimal(e.Status)
		}), true
	case "tree":
		return joined(r.yard.Tree(), entry), true
	case "procs":
		return joined(r.procs(), process), true
	case "ready":
		return joined(r.yard.Turn().Ready(), decimal), true
	}
	return "", false
}

func (r *reader) procs() []api.Proc {
	var l []api.Proc
	for p := range r.yard.Kernel().Procs() {
		l = append(l, p)
	}
	return l
}

func entry(e api.Entry) string {
	return writeBytes([]byte(e.Path)) + ":" + decimal(e.Kind) + ":" + decimal(e.Mode) + ":" + writeBytes([]byte(e.Data))
}

func process(p api.Proc) string {
	s := decimal(p.Pid) + ":" + decimal(p.Parent)
	if p.Ended {
		s += ":" + decimal(p.Status)
	}
	return s
}

// joined writes the things of a list with blanks between, or that there are none.
func joined[T any](l []T, write func(T) string) string {
	if len(l) == 0 {
		return "none"
	}
	var s strings.Builder
	for i, x := range l {
		if i > 0 {
			s.WriteByte(' ')
		}
		s.WriteString(write(x))
	}
	return s.String()
}

func okOr(err api.Errno) string {
	if err == api.OK {
		return "ok"
	}
	return "error " + decimal(int(err))
}

func decimal(n int) string {
	return octet.Decimal(int64(n))
}

func readInt(s string) (int, bool) {
	n, ok := octet.Number(s)
	return int(n), ok && n >= math.MinInt && n <= math.MaxInt
}
