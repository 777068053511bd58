package arith_test

import (
	"math"
	"math/rand"
	"slices"
	"strconv"
	"strings"
	"testing"

	"shyard/api"
	"shyard/arith"
)

func vars(l ...string) []api.Var {
	var vs []api.Var
	for i := 0; i < len(l); i += 2 {
		vs = append(vs, api.Var{Name: l[i], Value: l[i+1]})
	}
	return vs
}

// P3.1: what expressions are worth.
func TestWorth(t *testing.T) {
	vs := vars("a", "-4", "b", "0x1f", "c", "  +010 \n", "d", " \t", "e", "08", "f", "- 1", "g", "x", "a", "99",
		"h", "18446744073709551617", "i", "1 2", "j", "--1", "k", "+")
	for s, want := range map[string]int64{
		"1+2*3": 7, "(1+2)*3": 9, "0x1F+010": 39, "1?2:3?4:5": 2, "0?2:3?4:5": 4, "0?2:0?4:5": 5, "-3%2": -1, "": 0, " \t\n": 0,
		"a+1": -3, "b": 31, "c": 8, "d": 0, "nothing": 0, "h": 1, "A": 0, "_": 0,
		"9223372036854775807+1": math.MinInt64, "9223372036854775808": math.MinInt64, "18446744073709551616": 0,
		"0xFFFFFFFFFFFFFFFFF": -1, "0xa": 10, "0xA": 10, "0xfF": 255, "0Xb0": 176, "0x9": 9, "07": 7, "0X10": 16, "0": 0, "00": 0, "0777": 511,
		"-9223372036854775807-1": math.MinInt64, "(-9223372036854775807-1)/-1": math.MinInt64, "(-9223372036854775807-1)%-1": 0,
		"-9223372036854775808": math.MinInt64, "-7/2": -3, "7/-2": -3, "7%-2": 1, "9223372036854775807*2": -2,
		"1<<63": math.MinInt64, "1<<64": 1, "1<<-1": math.MinInt64, "-8>>1": -4, "-1>>63": -1, "8>>65": 4,
		"1<2": 1, "2<1": 0, "2<=2": 1, "3>2": 1, "2>=3": 0, "1==1": 1, "1!=1": 0, "!0": 1, "!5": 0, "~0": -1, "+5": 5, "- -5": 5, "--5": 5, "!-1": 0,
		"2&&3": 1, "2&&0": 0, "0||0": 0, "0||7": 1, "5|2": 7, "6^3": 5, "6&3": 2,
		"10-3-2": 5, "100/10/5": 2, "2-3+4": 3, "1<<2<<3": 32, "1+1<<1": 4, "1<2==1": 1, "1|2^2&3": 1 | 2 ^ 2&3,
		"1||0&&0": 1, "0&&0||1": 1, "1==2<3": 1, "3>2>1": 0, "5&3==3": 1, "(((1)))": 1, "1 +\n2": 3,
		"1?0?2:3:4": 3, "2*-3": -6, "!0+1": 2, "~1*2": -4, "1?7:8": 7,
	} {
		x, sets, err := arith.Eval(s, vs)
		if x != want || len(sets) != 0 || err != api.OK {
			t.Errorf("Eval(%q) = %d %v %d", s, x, sets, err)
		}
		if err := arith.Check(s); err != api.OK {
			t.Errorf("Check(%q) = %d", s, err)
		}
	}
	for s, want := range map[string]api.Errno{
		"7/0": api.ErrZero, "7%0": api.ErrZero, "e": api.ErrArith, "f": api.ErrArith, "g": api.ErrArith, "i": api.ErrArith, "j": api.ErrArith,
		"k": api.ErrArith, "7/0+e": api.ErrZero, "e+7/0": api.ErrArith, "x/=0": api.ErrZero, "x%=0": api.ErrZero, "e+=1": api.ErrArith,
		"g/=0": api.ErrArith, "x=7/0": api.ErrZero, "1/(2-2)": api.ErrZero, "1&&7/0": api.ErrZero, "1?7/0:2": api.ErrZero, "(x=3)/0": api.ErrZero,
		"-e": api.ErrArith, "7/0||1": api.ErrZero,
	} {
		x, sets, err := arith.Eval(s, vs)
		if x != 0 || len(sets) != 0 || err != want || arith.Check(s) != api.OK {
			t.Errorf("Eval(%q) = %d %v %d", s, x, sets, err)
		}
	}
}

// P3.1: what is assigned, in order.
func TestAssign(t *testing.T) {
	vs := []api.Var{{Name: "a", Value: "5", Unset: true, Readonly: true}, {Name: "a", Value: "6"}, {Name: "bad", Value: "1x"}}
	for _, c := range []struct {
		s    string
		want int64
		sets []api.Set
	}{
		{"x=5", 5, []api.Set{{Name: "x", Value: 5}}},
		{"a=b=3", 3, []api.Set{{Name: "b", Value: 3}, {Name: "a", Value: 3}}},
		{"a+=a", 10, []api.Set{{Name: "a", Value: 10}}},
		{"a+=(a=1)", 6, []api.Set{{Name: "a", Value: 1}, {Name: "a", Value: 6}}},
		{"(a=1)+a", 2, []api.Set{{Name: "a", Value: 1}}},
		{"a+(a=1)", 6, []api.Set{{Name: "a", Value: 1}}},
		{"x=1?y=2:3", 2, []api.Set{{Name: "y", Value: 2}, {Name: "x", Value: 2}}},
		{"bad=2", 2, []api.Set{{Name: "bad", Value: 2}}},
		{"a-=1", 4, []api.Set{{Name: "a", Value: 4}}}, {"a*=2", 10, []api.Set{{Name: "a", Value: 10}}},
		{"a/=2", 2, []api.Set{{Name: "a", Value: 2}}}, {"a%=3", 2, []api.Set{{Name: "a", Value: 2}}},
		{"a<<=2", 20, []api.Set{{Name: "a", Value: 20}}}, {"a>>=1", 2, []api.Set{{Name: "a", Value: 2}}},
		{"a&=4", 4, []api.Set{{Name: "a", Value: 4}}}, {"a^=1", 4, []api.Set{{Name: "a", Value: 4}}},
		{"a|=2", 7, []api.Set{{Name: "a", Value: 7}}}, {"x=-1", -1, []api.Set{{Name: "x", Value: -1}}},
		{"1||(x=2)", 1, nil}, {"0&&(x=2)", 0, nil}, {"1?2:(x=3)", 2, nil}, {"0?x=3:4", 4, nil}, {"0&&7/0", 0, nil}, {"1||bad", 1, nil},
		{"0&&(1||(x=1))", 0, nil}, {"1?2:7/0", 2, nil}, {"0?bad:1", 1, nil}, {"0&&(x/=0)", 0, nil}, {"1||1&&(x=1)", 1, nil},
		{"(x=2)&&(y=3)", 1, []api.Set{{Name: "x", Value: 2}, {Name: "y", Value: 3}}},
	} {
		x, sets, err := arith.Eval(c.s, vs)
		if x != c.want || !slices.Equal(sets, c.sets) || err != api.OK {
			t.Errorf("Eval(%q) = %d %v %d", c.s, x, sets, err)
		}
	}
}

// P3.1, P3.3: what breaks the form is refused by Check and by Eval, also where it isn't worked.
func TestForm(t *testing.T) {
	for _, s := range []string{
		"08", "0x", "0xg", "1a", "1_", "12_3", "0b1", "018", "1.5", "@", "a@", "$x", "1,2", "'1'", "1 2", "a b", "1 a",
		"(", ")", "()", "(1", "1)", "1+", "*1", "+", "!", "1!", "1~", "a=", "=1", "1=2", "(a)=1", "a+b=1", "!a=1", "-a=1",
		"1?2", "1?2:", "1?:2", "?1:2", "1:2", "1?2:x=3", "1?2:3:4", "a==", "a=== 1", "a!", "1<>2", "1<=>2", "a&&=1", "a||=1", "1&&&2", "++", "1\x00", "\x00", "é",
		"0&&(", "0&&08", "1||@", "1?2:08", "0?08:1", "1||", "a=b+c=1", "a<<<1", "1 + ", "5 5", "0 x1", "1 ? 2 : 3 = 4",
	} {
		x, sets, err := arith.Eval(s, nil)
		if arith.Check(s) != api.ErrArith || x != 0 || len(sets) != 0 || err != api.ErrArith {
			t.Errorf("%q: %d; %d %v %d", s, arith.Check(s), x, sets, err)
		}
	}
}

// P3.1: depth, at the limit and past it.
func TestDepth(t *testing.T) {
	rep := strings.Repeat
	for s, want := range map[string]api.Errno{
		rep("(", 24) + "1" + rep(")", 24): api.OK, rep("(", 25) + "1" + rep(")", 25): api.ErrNest,
		rep("-", 24) + "1": api.OK, rep("!", 25) + "1": api.ErrNest, rep("a=", 24) + "1": api.OK, rep("a+=", 25) + "1": api.ErrNest,
		rep("1?2:", 24) + "1": api.OK, rep("1?2:", 25) + "1": api.ErrNest, rep("1?", 24) + "1" + rep(":1", 24): api.OK,
		rep("1?", 25) + "1" + rep(":1", 25): api.ErrNest, rep("(", 25): api.ErrNest, rep("(", 24): api.ErrArith, rep("-", 25): api.ErrNest,
		rep("(", 25) + "@": api.ErrNest, "@" + rep("(", 25): api.ErrArith, "1 1" + rep("(", 25): api.ErrArith, rep("-", 24) + "@": api.ErrArith,
		rep("(-", 12) + "1" + rep(")", 12): api.OK, rep("(-", 12) + "(1)" + rep(")", 12): api.ErrNest, rep("1+", 999) + "1": api.OK,
		rep("(1)+", 999) + "1": api.OK, rep("-1+", 999) + "1": api.OK, rep("(", 24) + "a=1" + rep(")", 24): api.ErrNest,
		rep("(", 24) + "1?2:3" + rep(")", 24): api.ErrNest, rep("(", 24) + "1?": api.ErrNest, rep("(", 23) + "1?2:3" + rep(")", 23): api.OK,
		rep("1?2:", 24) + "1?": api.ErrNest, "0&&" + rep("(", 25) + "1" + rep(")", 25): api.ErrNest, rep("a=", 25): api.ErrNest, rep("a=", 24): api.ErrArith,
		rep("1?2:", 23) + "a=1": api.ErrArith, rep("(", 1<<16): api.ErrNest,
	} {
		if got := arith.Check(s); got != want {
			t.Errorf("Check(%.60q) = %d", s, got)
		}
		if x, sets, err := arith.Eval(s, nil); err != want || err != api.OK && (x != 0 || sets != nil) {
			t.Errorf("Eval(%.60q) = %d %v %d", s, x, sets, err)
		}
	}
}

// tree is an expression whose worth is told without reading any text.
type tree struct {
	text  string
	rank  int // 14: a number, a name or parentheses
	depth int
	worth func(env map[string]int64) (int64, api.Errno)
}

func within(x tree, rank int) (string, int) {
	if x.rank < rank {
		return "(" + x.text + ")", x.depth + 1
	}
	return x.text, x.depth
}

func someTree(r *rand.Rand, size int) tree {
	if size <= 0 {
		if r.Intn(2) == 0 {
			name := string("abc"[r.Intn(3)])
			return tree{name, 14, 0, func(env map[string]int64) (int64, api.Errno) { return env[name], 0 }}
		}
		n := []int64{0, 1, 2, 3, 63, 64, math.MaxInt64}[r.Intn(7)]
		return tree{strconv.FormatInt(n, 10), 14, 0, func(map[string]int64) (int64, api.Errno) { return n, 0 }}
	}
	switch r.Intn(6) {
	case 0:
		x, name, op := someTree(r, size-1), string("abc"[r.Intn(3)]), []string{"", "+", "-", "*", "<<", "/"}[r.Intn(6)]
		text, depth := within(x, 1)
		return tree{name + op + "= " + text, 1, depth + 1, func(env map[string]int64) (int64, api.Errno) {
			old := env[name]
			n, err := x.worth(env)
			if err == 0 && op != "" {
				n, err = say(op, old, n)
			}
			if err == 0 {
				env[name] = n
			}
			return n, err
		}}
	case 1:
		c, x, y := someTree(r, size/3), someTree(r, size/3), someTree(r, size/3)
		ct, cd := within(c, 3)
		xt, xd := within(x, 1)
		yt, yd := within(y, 2)
		return tree{ct + "?" + xt + ":" + yt, 2, max(cd, xd+1, yd+1), func(env map[string]int64) (int64, api.Errno) {
			if n, err := c.worth(env); err != 0 {
				return 0, err
			} else if n != 0 {
				return x.worth(env)
			}
			return y.worth(env)
		}}
	case 2:
		x, op := someTree(r, size-1), string("+-!~"[r.Intn(4)])
		text, depth := within(x, 13)
		return tree{op + text, 13, depth + 1, func(env map[string]int64) (int64, api.Errno) {
			n, err := x.worth(env)
			switch {
			case op == "-":
				n = -n
			case op == "~":
				n = ^n
			case op == "!" && n == 0:
				n = 1
			case op == "!":
				n = 0
			}
			return n, err
		}}
	}
	ops := []string{"||", "&&", "|", "^", "&", "==", "!=", "<", "<=", ">", ">=", "<<", ">>", "+", "-", "*", "/", "%"}
	ranks := []int{3, 4, 5, 6, 7, 8, 8, 9, 9, 9, 9, 10, 10, 11, 11, 12, 12, 12}
	i := r.Intn(len(ops))
	x, y := someTree(r, size/2), someTree(r, size/2)
	xt, xd := within(x, ranks[i])
	yt, yd := within(y, ranks[i]+1)
	return tree{xt + " " + ops[i] + yt, ranks[i], max(xd, yd), func(env map[string]int64) (int64, api.Errno) {
		a, err := x.worth(env)
		if err != 0 {
			return 0, err
		}
		if ops[i] == "||" && a != 0 {
			return 1, 0
		}
		if ops[i] == "&&" && a == 0 {
			return 0, 0
		}
		b, err := y.worth(env)
		if err != 0 {
			return 0, err
		}
		return say(ops[i], a, b)
	}}
}

func say(op string, a, b int64) (int64, api.Errno) {
	yes := map[string]bool{"||": a != 0 || b != 0, "&&": a != 0 && b != 0, "==": a == b, "!=": a != b, "<": a < b, "<=": a <= b, ">": a > b, ">=": a >= b}
	if y, ok := yes[op]; ok {
		if y {
			return 1, 0
		}
		return 0, 0
	}
	switch op {
	case "|":
		return a | b, 0
	case "^":
		return a ^ b, 0
	case "&":
		return a & b, 0
	case "<<":
		return a << (b & 63), 0
	case ">>":
		return a >> (b & 63), 0
	case "+":
		return a + b, 0
	case "-":
		return a - b, 0
	case "*":
		return a * b, 0
	}
	if b == 0 {
		return 0, api.ErrZero
	}
	if op == "/" {
		return a / b, 0
	}
	return a % b, 0
}

// P3.1, P3.2: expressions made by chance are worth, and assign, what their trees do; in parentheses too.
func TestTrees(t *testing.T) {
	r := rand.New(rand.NewSource(6))
	deep, wrong := 0, 0
	for range 60000 {
		x := someTree(r, r.Intn(24))
		env := map[string]int64{"a": 7, "b": -2}
		want, werr := x.worth(env)
		got, sets, err := arith.Eval(x.text, vars("a", "7", "b", "-2"))
		if x.depth > api.MaxNest {
			deep++
			if err != api.ErrNest {
				t.Fatalf("%s: %d", x.text, err)
			}
			continue
		}
		if err != werr || werr == 0 && got != want || werr != 0 && (got != 0 || sets != nil) {
			t.Fatalf("%s = %d %d, want %d %d", x.text, got, err, want, werr)
		}
		if werr != 0 {
			wrong++
			continue
		}
		now := map[string]int64{"a": 7, "b": -2}
		for _, s := range sets {
			now[s.Name] = s.Value
		}
		for name, n := range env {
			if now[name] != n {
				t.Fatalf("%s: %v, want %v", x.text, sets, env)
			}
		}
		if x.depth < api.MaxNest {
			again, more, err := arith.Eval(" ("+x.text+") ", vars("a", "7", "b", "-2"))
			if again != got || !slices.Equal(more, sets) || err != 0 {
				t.Fatalf("(%s) = %d %v %d", x.text, again, more, err)
			}
		}
	}
	if wrong < 100 {
		t.Error("too few errors:", wrong, deep)
	}
}

// P3.3: what Check refuses Eval refuses with that; P0: nothing panics.
func TestAnyText(t *testing.T) {
	r := rand.New(rand.NewSource(7))
	for range 60000 {
		b := make([]byte, r.Intn(9))
		for i := range b {
			b[i] = "aab0178x()()?:|&^=<>+-*/%!~ \n_$"[r.Intn(31)]
		}
		s := string(b)
		want := arith.Check(s)
		x, sets, err := arith.Eval(s, vars("a", "3"))
		if want != 0 && (err != want || x != 0 || sets != nil) || want == 0 && (err != 0 && err != api.ErrZero) {
			t.Fatalf("%q: %d; %d %v %d", s, want, x, sets, err)
		}
		y, more, again := arith.Eval("0&&("+s+")", vars("a", "3"))
		if strings.Trim(s, " \n") != "" && want == 0 && (y != 0 || more != nil || again != 0) {
			t.Fatalf("0&&(%q): %d %v %d", s, y, more, again)
		}
	}
}
