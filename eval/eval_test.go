package eval_test

import (
	"fmt"
	"math/rand"
	"slices"
	"strings"
	"testing"

	"shyard/api"
	"shyard/eval"
	"shyard/gate"
	"shyard/octet"
	"shyard/quiet"
	"shyard/turn"
)

var rep = strings.Repeat

func fresh() quiet.Kernel {
	k := quiet.New(api.Pair{Path: "d/"}, api.Pair{Path: "d/g", Data: "in g\n"}, api.Pair{Path: "t", Data: "one\ntwo x\nthree"}, api.Pair{Path: "no"}, api.Pair{Path: "src", Data: "y=sourced; return 3; echo never"}, api.Pair{Path: "script", Data: "echo \"$0 $# $1|$x|$y\"; x=changed; exit 9"}, api.Pair{Path: "bad", Data: "echo ok\nfi\necho no"}, api.Pair{Path: "plain", Data: "echo plain"})
	for path, mode := range map[string]int{"no": 0, "script": 493, "bad": 493, "plain": 420} {
		ino, _ := k.Files().Walk(1, path)
		k.Files().Chmod(ino, mode)
	}
	return k
}

type row struct {
	text   string
	out    string
	err    string
	status int
}

// check runs each text, with the parameters p and "q r" and three lines of input.
func check(t *testing.T, rows []row) {
	t.Helper()
	for _, c := range rows {
		k := fresh()
		got := k.Run(eval.Program(c.text, "shyard", []string{"p", "q r"}), "l1 a b\n l2 \nlast")
		if got != (quiet.Told{Out: c.out, Err: c.err, Status: c.status}) {
			t.Errorf("%s\n%q %q %d, want %q %q %d", c.text, got.Out, got.Err, got.Status, c.out, c.err, c.status)
		}
	}
}

// P20.1: simple commands: assignments, fields, names.
func TestSimple(t *testing.T) {
	check(t, []row{
		{"", "", "", 0}, {"# nothing", "", "", 0}, {"echo a b", "a b\n", "", 0}, {"x=1; echo $x", "1\n", "", 0}, {"x=1 y=$x; echo $y", "1\n", "", 0}, {"x='a b' y=$x; echo \"$y\"", "a b\n", "", 0}, {"x=*; echo \"$x\"", "*\n", "", 0}, {"HOME=/h x=~/y; echo $x", "/h/y\n", "", 0}, {"x=1 $none; echo $x", "1\n", "", 0}, {"x=1 echo $x.; echo $x.", ".\n.\n", "", 0}, {"echo a x=1", "a x=1\n", "", 0}, {"'x'=1; echo $?", "127\n", "shyard: x=1: 127\n", 0}, {"1x=2", "", "shyard: 1x=2: 127\n", 127},
		{"no", "", "shyard: no: 127\n", 127}, {"''", "", "shyard: 127\n", 127}, {"no a; echo $?", "127\n", "shyard: no: 127\n", 0}, {"x=1 no; echo $x", "\n", "shyard: no: 127\n", 0}, {"$none", "", "", 0}, {"false; $none; echo $?", "0\n", "", 0}, {"$(false); echo $?", "1\n", "", 0}, {"$(true; exit 3)", "", "", 3}, {"x=$(exit 4); echo $? $x.", "4 .\n", "", 0}, {"x=$(exit 4)$(true); echo $?", "0\n", "", 0}, {"x=$(exit 4) y=1; echo $?", "4\n", "", 0}, {"x=$(exit 4) :; echo $?", "0\n", "", 0}, {">f$(exit 5); echo $?", "5\n", "", 0}, {"echo $(exit 4); echo $?", "\n0\n", "", 0}, {"false; x=1; echo $?", "0\n", "", 0}, {"false; echo $(true)$?", "1\n", "", 0},
		{"a='echo b'; $a c", "b c\n", "", 0}, {"echo $1 \"$2\" $# $0", "p q r 2 shyard\n", "", 0}, {"printf '%s,' \"$@\"", "p,q r,", "", 0}, {"printf '%s,' $@ $*", "p,q,r,p,q,r,", "", 0}, {"printf '%s,' \"$*\" ${3-none} ${10-ten}", "p q r,none,ten,", "", 0}, {"echo ${01}", "p\n", "", 0}, {"x=1 cd d; echo $x; pwd", "1\n/d\n", "", 0}, {"x=1 :; echo $x", "1\n", "", 0}, {"f() { :; }; x=1 :; y=1 f; z=1 cd /; export; echo $x$y$z", "111\n", "", 0}, {"echo ${9-none} $9 ${0}", "none shyard\n", "", 0}, {"x=1 command :; echo $x", "1\n", "", 0}, {"f() { echo $x; }; x=1 f; echo $x", "1\n1\n", "", 0},
		{"echo *; cd d; echo * \\* '*' \"*\" n*", "bad d no plain script src t\ng * * * n*\n", "", 0}, {"x='d/*'; echo $x \"$x\"", "d/g d/*\n", "", 0}, {"IFS=:; x=a:b; printf '%s,' $x", "a,b,", "", 0}, {"readonly x=1; x=2 true; echo $?", "1\n", "shyard: x: 63\n", 0}, {"x=$(echo '  a  b ' ''); echo \"$x.\"", "  a  b  .\n", "", 0}, {"echo $((1+2)) $((x=5)) $x", "3 5 5\n", "", 0}, {"echo ${y:=v} $y ${#y} ${y#?} ${z+no} ${y+yes}", "v v 1 yes\n", "", 0},
	})
}

// P20.1: what is fatal.
func TestFatal(t *testing.T) {
	check(t, []row{
		{"echo a; echo ${x?no}; echo b", "a\n", "shyard: no: 62\n", 1}, {"echo ${x?}", "", "shyard: 62\n", 1}, {"echo ${x:?$1 $2}", "", "shyard: p q r: 62\n", 1}, {"echo $((1/0)); echo b", "", "shyard: 61\n", 1}, {"x=$((08))", "", "shyard: 60\n", 1}, {"echo ${}", "", "shyard: 55\n", 1}, {"readonly x=1; x=2; echo b", "", "shyard: x: 63\n", 1}, {"readonly x=1; echo ${x:+a}; : $((x=2)); echo b", "a\n", "shyard: 63\n", 1}, {"(echo ${x?in}; echo b); echo $?", "1\n", "shyard: in: 62\n", 0}, {"echo a | { echo ${x?in}; echo b; }; echo $?", "1\n", "shyard: in: 62\n", 0}, {"x=$(echo ${y?in}; echo b); echo $?.$x", "1.\n", "shyard: in: 62\n", 0}, {"f() { echo ${x?in}; }; f; echo b", "", "shyard: in: 62\n", 1}, {"for i in a; do : ${x?in}; done; echo b", "", "shyard: in: 62\n", 1},
		{"x=" + rep("a", 4090) + "; y=" + rep("$x", 17) + "; echo b", "", "shyard: 66\n", 1}, {"set -- " + rep("a ", 198) + "; echo $#; echo " + rep("a ", 200) + "; echo b", "198\n", "shyard: 66\n", 1}, {"for i in " + rep("a ", 300) + "; do x=x$x; done; echo ${#x}", "300\n", "", 0}, {"echo a >${x?out}; echo b", "", "shyard: out: 62\n", 1}, {"cat <<E\n${x?doc}\nE\necho b", "", "shyard: doc: 62\n", 1}, {"case ${x?word} in a) ;; esac; echo b", "", "shyard: word: 62\n", 1}, {"case a in ${x?pat}) ;; esac; echo b", "", "shyard: pat: 62\n", 1}, {"case a in a|${x?pat}) echo c;; esac; echo b", "c\nb\n", "", 0}, {"for i in ${x?for}; do :; done; echo b", "", "shyard: for: 62\n", 1}, {"readonly i; for i in a; do echo c; done; echo b", "", "shyard: i: 63\n", 1}, {"x=${y?val} true; echo $?", "1\n", "shyard: val: 62\n", 0}, {"x=${y?val} :; echo b", "", "shyard: val: 62\n", 1},
	})
}

// P20.1: pipelines, lists, what is begun and not waited for.
func TestPipelinesAndLists(t *testing.T) {
	check(t, []row{
		{"echo a b | wc -w", "2\n", "", 0}, {"false | true; echo $?", "0\n", "", 0}, {"true | false; echo $?", "1\n", "", 0}, {"! true; echo $?", "1\n", "", 0}, {"! exit 3 | false; echo $?", "0\n", "", 0}, {"! true | (exit 3); echo $?", "0\n", "", 0}, {"! true | true; echo $?", "1\n", "", 0}, {"seq 1000 | { read x; echo $x; }", "1\n", "", 0}, {"seq 1000 | cat | cat | tail -n 1", "1000\n", "", 0}, {"x=1; x=2 | x=3; echo $x", "1\n", "", 0}, {"false; echo $? | cat; false; true | echo $?", "1\n1\n", "", 0}, {"cd d | true; pwd", "/\n", "", 0}, {"echo a | { cat; echo b; } | sort -r", "b\na\n", "", 0}, {"no | cat; echo $?", "0\n", "shyard: no: 127\n", 0}, {"exit 3 | exit 4", "", "", 4}, {"echo a | while read x; do echo $x; done", "a\n", "", 0}, {"f() { cat; }; echo a | f | f", "a\n", "", 0}, {"! exit 3; echo b", "", "", 3},
		{"true && echo a || echo b", "a\n", "", 0}, {"false && echo a || echo b", "b\n", "", 0}, {"false || true && echo a", "a\n", "", 0}, {"false && true; echo $?", "1\n", "", 0}, {"true || echo a; echo $?", "0\n", "", 0}, {"! false && echo a", "a\n", "", 0}, {"echo a; echo b\necho c", "a\nb\nc\n", "", 0}, {"false; true; (exit 5)", "", "", 5},
		{"exit 3 & wait $!; echo $?", "3\n", "", 0}, {"(exit 3) & x=$!; wait; echo $? ; wait $x; echo $?", "0\n127\n", "", 0}, {"false; cat & wait $!; echo $?; read x; echo $x", "0\nl1 a b\n", "", 0}, {"false & echo $?; wait", "0\n", "", 0}, {"echo ${!-none}; true & echo ${!+set}; wait", "none\nset\n", "", 0}, {"wait 99; echo $?", "127\n", "", 0}, {"cat <t & wait", "one\ntwo x\nthree", "", 0}, {"{ echo a; exit 2; } & wait $!; echo $?", "a\n2\n", "", 0}, {"x=1; { x=2; echo $x; } & wait; echo $x", "2\n1\n", "", 0},
	})
}

// P20.1: compound commands.
func TestCompound(t *testing.T) {
	check(t, []row{
		{"x=1; (x=2; cd d; echo $x; pwd); echo $x; pwd", "2\n/d\n1\n/\n", "", 0}, {"(exit 7); echo $?", "7\n", "", 0}, {"((echo a); echo b)", "a\nb\n", "", 0}, {"{ x=2; }; echo $x", "2\n", "", 0}, {"(umask 0); umask", "22\n", "", 0},
		{"if true; then echo a; else echo b; fi", "a\n", "", 0}, {"if false; then echo a; elif true; then echo c; else echo b; fi", "c\n", "", 0}, {"if false; then echo a; elif false; then echo c; else echo b; fi", "b\n", "", 0}, {"if false; then :; fi; echo $?", "0\n", "", 0}, {"if (exit 3); then :; else echo $?; fi", "3\n", "", 0}, {"if true; then (exit 4); fi; echo $?", "4\n", "", 0}, {"if true; false; then echo a; fi", "", "", 0},
		{"i=0; while [ $i -lt 3 ]; do i=$((i+1)); echo $i; done; echo $?", "1\n2\n3\n0\n", "", 0}, {"i=0; until [ $i -ge 2 ]; do i=$((i+1)); echo $i; (exit 5); done; echo $?", "1\n2\n5\n", "", 0}, {"while false; do :; done; echo $?", "0\n", "", 0}, {"(exit 3); while false; do :; done; echo $?", "0\n", "", 0}, {"while true; do (exit 4); break; done; echo $?", "0\n", "", 0}, {"i=0; while [ $i = 0 ] || break; do i=1; (exit 5); done; echo $?", "0\n", "", 0}, {"i=0; while [ $i -lt 2 ]; do i=$((i+1)); until false; do break 2; done; echo no; done; echo $i", "1\n", "", 0}, {"i=0; while [ $i -lt 2 ]; do i=$((i+1)); until false; do continue 2; done; echo no; done; echo $i", "2\n", "", 0}, {"f() { while :; do return 5; done; }; f; echo $?; while exit 6; do :; done", "5\n", "", 6}, {"i=0; while i=$((i+1)); [ $i = 1 ] && continue; [ $i -lt 4 ]; do echo $i; done", "2\n3\n", "", 0}, {"while false; do :; done; while ! false; do echo a; break; done", "a\n", "", 0}, {"while break; do echo a; done; echo $?", "0\n", "", 0},
		{"for i in 1 2 3; do [ $i = 2 ] && continue; echo $i; done", "1\n3\n", "", 0}, {"for i; do echo \"$i\"; done", "p\nq r\n", "", 0}, {"for i in; do echo a; done; echo $?", "0\n", "", 0}, {"false; for i in $none; do :; done; echo $?", "0\n", "", 0}, {"false; for i in a; do echo $?; done", "0\n", "", 0}, {"for i in a $x 'b c' \"$@\"; do printf '%s,' \"$i\"; done; echo $i", "a,b c,p,q r,q r\n", "", 0}, {"for i in a b; do (exit 3); done; echo $?", "3\n", "", 0}, {"for i in $(exit 3); do :; done; echo $?", "0\n", "", 0}, {"for i; do set -- new; echo $i; done; echo $1", "p\nq r\nnew\n", "", 0}, {"for i in a b; do for j in 1 2; do [ $j = 2 ] && continue 2; echo $i$j; done; echo no; done", "a1\nb1\n", "", 0}, {"for i in a b; do for j in 1 2; do break 2; done; echo no; done; echo $i$j $?", "a1 0\n", "", 0}, {"for i in a b; do for j in 1 2; do break 9; done; echo no; done; echo $i", "a\n", "", 0}, {"for i in a b; do for j in 1 2; do continue 9223372036854775807; done; done; echo $i$j", "b1\n", "", 0},
		{"case abc in a*) echo 1;; *) echo 2;; esac", "1\n", "", 0}, {"case x in a|x) echo 1;; *) echo 2;; esac", "1\n", "", 0}, {"case x in a) echo 1;; esac; echo $?", "0\n", "", 0}, {"(exit 3); case x in y) ;; esac; echo $?", "0\n", "", 0}, {"(exit 3); case x in x) echo $?;; esac", "0\n", "", 0}, {"(exit 3); case x in x) ;; esac; echo $?", "0\n", "", 0}, {"case $(exit 3) in *) echo $?;; esac", "0\n", "", 0}, {"case '*' in '*') echo q;; esac; case a in '*') echo no;; \"*\") echo no;; \\*) echo no;; *) echo w;; esac", "q\nw\n", "", 0}, {"x='a*'; case abc in $x) echo 1;; esac; case abc in \"$x\") echo 2;; esac", "1\n", "", 0}, {"case $2 in 'q r') echo one;; esac", "one\n", "", 0}, {"case x in x) (exit 4);; esac; echo $?", "4\n", "", 0}, {"case a in [!a]) echo 1;; [a-c]) echo 2;; esac", "2\n", "", 0}, {"case '' in '') echo e;; esac", "e\n", "", 0}, {"case ')' in a) echo a;; b) echo b;; esac; echo $?; case ')' in a) ;; ')') echo c;; esac", "0\nc\n", "", 0}, {"case x in $(echo x) ) echo 1;; $(echo ran >f)) ;; esac; cat f", "1\n", "cat: f: 2\n", 1},
	})
}

// P20.1: functions.
func TestFunctions(t *testing.T) {
	check(t, []row{
		{"f() { echo \"$1-$#\"; }; f a b; f; echo $1 $#", "a-2\n-0\np 2\n", "", 0}, {"f() { set -- x y z; shift; echo $1; }; f a; echo $1 $#", "y\np 2\n", "", 0}, {"f() { return 3; echo no; }; f; echo $?", "3\n", "", 0}, {"f() { (exit 4); return; }; f; echo $?", "4\n", "", 0}, {"f() { return 259; }; f; echo $?", "3\n", "", 0}, {"f() { x=2; }; x=1; f; echo $x", "2\n", "", 0}, {"f() (x=2); x=1; f; echo $x", "1\n", "", 0}, {"f() { echo 1; }; f() { echo 2; }; f", "2\n", "", 0}, {"false; f() { :; }; echo $?", "0\n", "", 0}, {"f() { g; echo f; }; g() { return 2; }; f", "f\n", "", 0}, {"f() { for i in 1 2; do return 5; done; }; f; echo $? $i", "5 1\n", "", 0}, {"f() { echo in; } >o; f; f; cat o", "in\n", "", 0}, {"f() { cat; } <<E\ndoc $1\nE\nf a; f b", "doc a\ndoc b\n", "", 0}, {"f() { exit 6; }; f; echo no", "", "", 6}, {"f() { (return 3; echo no); echo $?; }; f", "3\n", "", 0}, {"f() { echo a | return 3; echo $?; }; f", "3\n", "", 0},
		{"for i in 1 2; do f() { break; echo in; }; f; echo $i; done", "in\n1\nin\n2\n", "", 0}, {"f() { for i in 1 2; do g; echo $i; done; }; g() { continue; }; f", "1\n2\n", "", 0}, {"for i in 1 2; do (break; echo in); echo $i; done", "in\n1\nin\n2\n", "", 0}, {"for i in 1 2; do break | cat; echo $i; done", "1\n2\n", "", 0}, {"for i in 1 2; do echo $(break; echo in); done", "in\nin\n", "", 0}, {"for i in 1 2; do eval break; echo no; done; echo $i", "1\n", "", 0}, {"f() { eval 'return 4'; echo no; }; f; echo $?", "4\n", "", 0}, {"echo() { printf mine; }; echo a; command echo b", "mineb\n", "", 0}, {"cd() { printf mine; }; cd d; pwd", "mine/\n", "", 0}, {"eval() { printf mine; }; eval 'printf real'", "real", "", 0}, {"f() { unset -f f; echo once; }; f; f", "once\n", "shyard: f: 127\n", 127}, {"f() { f; }; f; echo no", "", "shyard: f: 65\n", 1}, {"eval_() { eval eval_; }; eval_", "", "shyard: eval_: 65\n", 1}, {"f() { eval f; :; }; f() { x=x$x; eval f; }; f", "", "shyard: f: 65\n", 1},
		{"f() { x=x$x; [ ${#x} -lt 24 ] && f; return 0; }; f; echo ${#x}", "24\n", "", 0}, {"f() { g; }; g() { x=x$x; [ ${#x} -lt 11 ] && f; return 0; }; eval 'eval f'; echo ${#x}", "11\n", "", 0}, {"return 4; echo no", "", "", 4}, {"f() { echo $0 $$; }; [ \"$(f)\" = \"shyard $$\" ] && echo same", "same\n", "", 0},
	})
	var text strings.Builder
	for i := range api.MaxVars {
		fmt.Fprintf(&text, "f%d() { echo %d; }\n", i, i)
	}
	check(t, []row{
		{text.String() + "f63; f1() { echo again; }; f1; more() { :; }; echo no", "63\nagain\n", "shyard: more: 64\n", 1}, {text.String() + "unset -f f5; more() { echo more; }; more", "more\n", "", 0},
	})
}

// P20.1: redirections.
func TestRedirections(t *testing.T) {
	check(t, []row{
		{"for i in 1 2; do echo $i; done >f; cat f", "1\n2\n", "", 0}, {"echo a >f; echo b >>f; cat <f; echo c >|f; cat f", "a\nb\nc\n", "", 0}, {"echo a >f 2>&1 >g; no 2>&1 >h; cat f g; echo .", "shyard: no: 127\na\n.\n", "", 0}, {"no >f 2>&1; cat f", "shyard: no: 127\n", "", 0}, {"{ echo o; no; } 2>e >f; cat e f", "shyard: no: 127\no\n", "", 0}, {"read x <t; echo $x", "one\n", "", 0}, {"{ read x; read y; } <t; echo $x.$y", "one.two x\n", "", 0}, {"exec 3<t; read x <&3; read y <&3; exec 3<&-; echo $x.$y; read z <&3", "one.two x\n", "shyard: 3: 9\n", 1}, {"echo abc >f; exec 4<>f; read x <&4; echo $x >&4; cat f", "abc\nabc\n", "", 0}, {"cat <>n; echo $?; [ -e n ] && echo made", "0\nmade\n", "", 0}, {"echo a >&2; echo $?", "0\n", "a\n", 0}, {"echo a 1>&-; echo $?", "0\n", "", 0}, {"echo a >&- >f; cat f", "a\n", "", 0}, {"echo a 3>f >&3; cat f", "a\n", "", 0}, {">f; cat f; echo $?", "0\n", "", 0}, {"x=1 >f; echo $x", "1\n", "", 0}, {"exec 5>&1; echo a >&5; exec 5>&-; echo b >&5", "a\n", "shyard: 5: 9\n", 1}, {"0<t cat", "one\ntwo x\nthree", "", 0}, {"echo a 0>f; cat f", "a\n", "", 0}, {"exec 9<t; read x <&9; echo $x; read x <&0; echo $x", "one\nl1 a b\n", "", 0}, {"echo a >&:; echo $?; echo b >&/", "1\n", "shyard: :: 9\nshyard: /: 9\n", 1}, {"echo a 2>f 2>g 2>&1 >&2; ls f g", "a\nf\ng\n", "", 0}, {"exec 2>&-; echo a | cat; echo $(echo b); no; echo $?", "a\nb\n127\n", "", 0},
		{"cat <none; echo $?", "1\n", "shyard: none: 2\n", 0}, {"echo a >d; echo $?", "1\n", "shyard: d: 21\n", 0}, {"cat <no; echo $?", "1\n", "shyard: no: 13\n", 0}, {"echo a >&x; echo $?", "1\n", "shyard: x: 9\n", 0}, {"echo a >&12", "", "shyard: 12: 9\n", 1}, {"echo a >&$none", "", "shyard: 9\n", 1}, {"x=1 <none; echo $? $x.", "1 .\n", "shyard: none: 2\n", 0}, {"{ echo a; } <none; echo $?", "1\n", "shyard: none: 2\n", 0}, {"(echo a) <none || echo b", "b\n", "shyard: none: 2\n", 0}, {"if true; then echo a; fi <none; echo $?", "1\n", "shyard: none: 2\n", 0}, {"cd d <none; pwd", "/\n", "shyard: none: 2\n", 0}, {"exit 3 <none; echo $?", "1\n", "shyard: none: 2\n", 0}, {"exec >none/x; echo a", "a\n", "shyard: none/x: 2\n", 0}, {"echo a >f <none; echo b; cat f", "b\n", "shyard: none: 2\n", 0}, {"no 2>e <none; cat e; no", "shyard: none: 2\n", "shyard: no: 127\n", 127}, {"f() { echo a; }; f <none; f", "a\n", "shyard: none: 2\n", 0}, {"echo a >'' ; echo $?", "1\n", "shyard: 2\n", 0}, {"x='a b'; echo c >$x; cat 'a b'", "c\n", "", 0}, {"echo c >f*; ls f*", "f*\n", "", 0},
		{"cat <<E\na $1 `\n", "", "shyard: 54\n", 2}, {"cat <<E\n$1 ${2} $(echo in) $((1+1)) \\$x \\a \"q\" 'r'\nE", "p q r in 2 $x \\a \"q\" 'r'\n", "", 0}, {"cat <<'E'\n$1 \\$x `\nE", "$1 \\$x `\n", "", 0}, {"cat <<-E\n\t\ta\n\tE", "a\n", "", 0}, {"cat <<A; cat <<B\n1\nA\n2\nB", "1\n2\n", "", 0}, {"cat <<A <<B\n1\nA\n2\nB", "2\n", "", 0}, {"read a b <<E\np q r\nE\necho \"$a|$b\"", "p|q r\n", "", 0}, {"while read x; do echo \"<$x>\"; done <<E\n1\n2\nE", "<1>\n<2>\n", "", 0}, {"cat 3<<E <&3\nx\nE", "x\n", "", 0}, {"for i in 1 2; do cat <<E\n$i\nE\ndone", "1\n2\n", "", 0}, {"cat <<E | rev\nab\nE", "ba\n", "", 0}, {"x=$(cat <<E\nin\nE\n); echo $x", "in\n", "", 0}, {"cat <<E\n$*\nE", "p q r\n", "", 0}, {"cat <<E\n$@\nE", "p q r\n", "", 0},
		{"exec >f; echo a; no; exec >&2; cat f", "", "shyard: no: 127\na\n", 0}, {"{ exec >f; echo a; } >g; echo b; cat f g", "b\na\n", "", 0}, {"command exec >f; echo a", "a\n", "", 0}, {"x=1 exec 3>f; echo $x >&3; cat f", "1\n", "", 0}, {"exec <t; read x; cat; echo; echo $x", "two x\nthree\none\n", "", 0}, {"f() { exec 2>&1; }; f; no", "shyard: no: 127\n", "", 127}, {"{ no; } 2>&1 | cat", "shyard: no: 127\n", "", 0}, {"exec 0<&-; cat; echo a | cat; x=$(echo b); echo $x", "a\nb\n", "cat: -: 9\n", 0}, {"exec 0<&- 1>&-; echo a | cat >&2; x=$(echo b); echo $x >&2", "", "a\nb\n", 0}, {"exec 1>&- 2>&-; echo a | cat >f; no; echo $(echo b) >>f; exec 1<f 0<f; [ \"$(cat)\" = 'a\nb' ] && exit 5", "", "", 5},
		{"echo a >f; { read x <f; echo $x; } >g; cat g", "a\n", "", 0}, {"(exec 1>f; echo a); echo b; cat f", "b\na\n", "", 0}, {"umask 77; >f; umask 0; >g; ls; [ -r f ] && echo r; chmod 0 f; cat f", "bad\nd\nf\ng\nno\nplain\nscript\nsrc\nt\nr\n", "cat: f: 13\n", 1},
	})
}

// P20.1: built-ins.
func TestBuiltins(t *testing.T) {
	check(t, []row{
		{"false; : a ${x:=1}; echo $? $x", "0 1\n", "", 0}, {"break; echo $?; continue 5; echo $?", "0\n0\n", "", 0}, {"for i in 1 2; do break 0; echo $?; done", "2\n2\n", "shyard: break: usage\nshyard: break: usage\n", 0}, {"for i in 1 2; do continue x; break -1; break 1 1; echo $i; break; done", "1\n", "shyard: continue: usage\nshyard: break: usage\nshyard: break: usage\n", 0}, {"exit 3", "", "", 3}, {"exit 256", "", "", 0}, {"exit 9223372036854775807", "", "", 255}, {"(exit 3); exit", "", "", 3}, {"exit -1; exit x; exit 1 2; echo $?", "2\n", "shyard: exit: usage\nshyard: exit: usage\nshyard: exit: usage\n", 0}, {"f() { return -1; return x; echo $?; }; f", "2\n", "shyard: return: usage\nshyard: return: usage\n", 0}, {"exit +07", "", "", 7},
		{"eval; echo $?", "0\n", "", 0}, {"false; eval ''; echo $?", "0\n", "", 0}, {"eval 'x=1;' 'echo' '$x'; echo $x", "1\n1\n", "", 0}, {"eval '(exit 4)'; echo $?", "4\n", "", 0}, {"echo a; eval 'echo b; fi'; echo no", "a\n", "shyard: 56\n", 2}, {"eval 'echo b\nfi'; echo no", "b\n", "shyard: 56\n", 2}, {"(eval 'fi'); echo $?", "2\n", "shyard: 56\n", 0}, {"eval 'exit 3'; echo no", "", "", 3}, {"eval " + rep("'eval ", 1) + "echo a'", "a\n", "", 0},
		{". ./src; echo $? $y", "3 sourced\n", "", 0}, {"f() { . src; echo $?; }; f", "3\n", "", 0}, {". none; echo $?", "1\n", "shyard: none: 2\n", 0}, {". d; echo $?", "1\n", "shyard: d: 21\n", 0}, {"echo 'x=2; echo in' >f; . ./f; echo $x; eval 'echo last'; echo end", "in\n2\nlast\nend\n", "", 0}, {".; . a b; echo $?", "2\n", "shyard: .: usage\nshyard: .: usage\n", 0}, {". bad; echo no", "ok\n", "shyard: 56\n", 2}, {"echo 'echo $1; break' >f; for i in 1 2; do . ./f; done; echo $i", "p\n1\n", "", 0}, {">f; false; . ./f; echo $?", "0\n", "", 0}, {"echo 'x=x$x; . ./f' >f; . ./f", "", "shyard: .: 65\n", 1}, {"eval 'echo a &' ; wait", "a\n", "", 0},
		{"exec echo a; echo no", "a\n", "", 0}, {"exec false", "", "", 1}, {"exec no; echo no", "", "shyard: no: 127\n", 127}, {"exec cd d; echo no", "", "shyard: cd: 127\n", 127}, {"f() { echo f; }; exec f", "", "shyard: f: 127\n", 127}, {"(exec cat t >f); cat f", "one\ntwo x\nthree", "", 0}, {"x=1; export x; exec ./script a", "./script 1 a|1|\n", "", 9}, {"exec ./none", "", "shyard: ./none: 2\n", 127}, {"{ exec cat; } <t", "one\ntwo x\nthree", "", 0}, {"command exec echo a; echo no", "a\n", "", 0},
		{"x=1; export x y z='a b'; export; readonly r='it'\\''s' q; readonly", "export x=1\nexport y\nexport z='a b'\nreadonly q\nreadonly r='it'\\''s'\n", "", 0}, {"export 1a=b x; echo $?; export; export ''; echo $?", "1\nexport x\n1\n", "shyard: 1a=b: 22\nshyard: 22\n", 0}, {"readonly x=1; export x=2; echo $? $x; readonly x=3; export x; echo $?", "1 1\n0\n", "shyard: x: 63\nshyard: x: 63\n", 0}, {"export -p; echo $?", "1\n", "shyard: -p: 22\n", 0}, {"set; x=1 y='a b'; export z; set", "x=1\ny='a b'\n", "", 0}, {"set a 'b c'; echo $# $2; set -- -x; echo $1; set --; echo $#; set -x; echo $? $#; set a -b; echo $2", "2 b c\n-x\n0\n2 0\n-b\n", "shyard: set: usage\n", 0}, {"set -; echo $?", "2\n", "shyard: set: usage\n", 0},
		{"shift; echo $1; shift 1; echo $#; shift 0; echo $?; shift; echo $?", "q r\n0\n0\n1\n", "shyard: shift: 22\n", 0}, {"shift 3; echo $? $#; shift -1; shift x; shift 1 1; echo $?", "1 2\n2\n", "shyard: shift: 22\nshyard: shift: usage\nshyard: shift: usage\nshyard: shift: usage\n", 0}, {"shift 9223372036854775807; echo $?", "1\n", "shyard: shift: 22\n", 0}, {"x=1 y=2; unset x z; echo $?${x-gone}$y; unset -v y; echo ${y-gone}", "0gone2\ngone\n", "", 0}, {"readonly x=1; unset x 1a y; echo $?", "1\n", "shyard: x: 63\nshyard: 1a: 22\n", 0}, {"f() { :; }; f=1; unset -f f g; echo $? $f; f", "0 1\n", "shyard: f: 127\n", 127}, {"f() { echo f; }; unset f; f; unset -q; echo $?", "f\n2\n", "shyard: unset: usage\n", 0}, {"unset; echo $?", "0\n", "", 0},
		{"cd d; pwd; cd ..; pwd; cd none; echo $?; cd t; echo $?; cd; echo $?; HOME=/d; cd; pwd; cd / x; echo $?; cd ''; echo $?", "/d\n/\n1\n1\n1\n/d\n2\n1\n", "shyard: none: 2\nshyard: t: 20\nshyard: 2\nshyard: cd: usage\nshyard: 2\n", 0}, {"umask; umask 7; umask; umask 777; umask; umask 1000; umask 8; umask 1 2; echo $?", "22\n7\n777\n2\n", "shyard: umask: usage\nshyard: umask: usage\nshyard: umask: usage\n", 0}, {"wait; echo $?; wait x; wait 1 2; echo $?; wait 12345; echo $?", "0\n2\n127\n", "shyard: wait: usage\nshyard: wait: usage\n", 0},
		{"command; echo $?; command echo a; command no; echo $?; f() { :; }; command f; echo $?", "0\na\n127\n127\n", "shyard: no: 127\nshyard: f: 127\n", 0}, {"f() { :; }; for i in cd : f ls cat '[' command exit no ./script ''; do command -v \"$i\" || echo none; done", "cd\n:\nf\nls\ncat\n[\ncommand\nexit\nnone\nnone\nnone\n", "", 0}, {"command -v; command -v a b; echo $?; command -x; echo $?", "2\n127\n", "shyard: command: usage\nshyard: command: usage\nshyard: -x: 127\n", 0}, {"command exit 4; echo no", "", "", 4}, {"for i in 1 2; do command break; done; echo $i", "1\n", "", 0}, {"command command cd d; pwd", "/d\n", "", 0}, {"command ./script", "./script 0 ||\n", "", 9},
	})
}

// P20.1: what a field names: a special built-in, a function, another built-in, a utility, in this order.
func TestNames(t *testing.T) {
	for _, name := range []string{"break", "continue", "return", "exit", "eval", "exec", "export", "readonly", "set --", "shift", "unset"} {
		name, operand, _ := strings.Cut(name, " ")
		check(t, []row{{name + "() { echo mine; }; command -v " + name + "; (for i in 1; do " + name + " " + operand + " >f; done); cat f", name + "\n", "", 0}})
	}
	for _, name := range []string{"cd", "read", "wait", "umask", "command", "echo", "cat", "test", "ls", "true"} {
		check(t, []row{{name + "() { printf 'mine '; }; " + name + "; " + name + " a", "mine mine ", "", 0}})
	}
}

// P20.1: exec begins no process; a shell uses no more processes than are told.
func TestProcesses(t *testing.T) {
	for text, want := range map[string]int{"exec echo a": 0, "exec ./script": 1, "echo a": 1, "(echo a)": 1, "echo a | cat | cat": 3, "x=$(echo a)": 1, "cat </f & wait": 1, "x=1 echo a": 1, "./script": 2, "(exec cat t)": 1, "{ echo a; } >f; :": 1, "f() { :; }; f; cd d; eval :": 0, "(cd d; echo a; pwd)": 2, "{ if true; then ls; fi; } | { case a in (a) cat; esac; }": 3} {
		k := fresh()
		k.Run(eval.Program(text, "shyard", nil), "")
		n := 0
		for _, c := range k.Turn.Log() {
			if c.No == api.SysFork {
				n++
			}
		}
		if n > want {
			t.Errorf("%s: %d processes, want %d", text, n, want)
		}
	}
}

// P20.1: read.
func TestRead(t *testing.T) {
	check(t, []row{
		{"read a b; echo \"$a|$b\"; read a; echo \"$a\"; read a; echo $? \"$a\"; read a; echo $? \"$a\"", "l1|a b\nl2\n1 last\n1 \n", "", 0}, {"read a b c d e; echo \"$a|$b|$c|$d|$e\"", "l1|a|b||\n", "", 0}, {"read; read 1; read a 1; echo $?; read a; echo $a", "2\nl1 a b\n", "shyard: read: usage\nshyard: read: usage\nshyard: read: usage\n", 0}, {"read a <&-; echo $?", "1\n", "shyard: read: 9\n", 0}, {"readonly a; read a b; echo $? $b", "1 a b\n", "shyard: a: 63\n", 0}, {"read x; cat", " l2 \nlast", "", 0},
	})
	for _, c := range []struct{ ifs, line, want string }{
		{"", " a : b ", " a : b |"}, {":", " a : b :c: ", " a | b :c: "}, {": ", " a : b :c: ", "a|b :c:"}, {":", "a::b", "a|:b"}, {":", ":a", "|a"}, {": ", "a  :  b", "a|b"}, {": ", "a  :  :  b", "a|:  b"}, {" ", "a  b  c  ", "a|b  c"}, {"\t ", "\ta\t b ", "a|b"}, {":;", "a;b:c", "a|b:c"}, {"x", "axxb", "a|xb"}, {" ", "", "|"}, {":", ":", "|"}, {": ", "a :", "a|"}, {"\\\\", "a\\\\b", "a|b"}, {" ", "a\\\\ b", "a\\\\|b"},
	} {
		text := "IFS=" + octet.Quote(strings.ReplaceAll(c.ifs, `\\`, `\`)) + "; read x y <<'E'\n" + strings.ReplaceAll(c.line, `\\`, `\`) + "\nE\nprintf '%s|%s' \"$x\" \"$y\""
		check(t, []row{{text, strings.ReplaceAll(c.want, `\\`, `\`), "", 0}})
	}
}

// P20.1: files of commands, and the parameters of shells.
func TestFilesOfCommands(t *testing.T) {
	check(t, []row{
		{"x=1; y=2; export x; ./script 'a b' c; echo $? $x", "./script 2 a b|1|\n9 1\n", "", 0}, {"y=3 ./script; echo ${y-none}", "./script 0 ||3\nnone\n", "", 0}, {"/script", "/script 0 ||\n", "", 9}, {"cd d; ../script", "../script 0 ||\n", "", 9}, {"./none; echo $?", "127\n", "shyard: ./none: 2\n", 0}, {"./no; echo $?", "126\n", "shyard: ./no: 13\n", 0}, {"./plain; echo $?", "126\n", "shyard: ./plain: 13\n", 0}, {"./d; echo $?", "126\n", "shyard: ./d: 21\n", 0}, {"./t/x; echo $?", "126\n", "shyard: ./t/x: 20\n", 0}, {"./bad; echo $?", "ok\n2\n", "shyard: 56\n", 0}, {"readonly z=1; export z; echo 'z=2; echo $z; f' >s; chmod 755 s; f() { :; }; ./s; echo $?", "2\n127\n", "shyard: f: 127\n", 0}, {"readonly z=1; z=2 ./script; echo $?", "1\n", "shyard: z: 63\n", 0}, {"echo 'echo $$' >s; chmod 700 s; [ $(./s) != $$ ] && echo other; (echo $$) >a; echo $$ >b; cmp a b && echo same", "other\nsame\n", "", 0}, {"false; echo 'echo $? ${!-none} $#' >s; chmod 700 s; true & wait; false; ./s a", "0 none 1\n", "", 0}, {"echo 'read x; echo $x; cat' >s; chmod 700 s; ./s <t; ./s | cat", "one\ntwo x\nthreel1 a b\n l2 \nlast", "", 0}, {">s; chmod 700 s; (exit 3); ./s; echo $?", "0\n", "", 0}, {"export y; echo 'export' >s; chmod 700 s; x=1 ./s", "export x=1\n", "", 0},
	})
}

// P21.2 as seen here: a text that is refused has run what precedes.
func TestRefusedTexts(t *testing.T) {
	check(t, []row{
		{"echo a\n)", "a\n", "shyard: 56\n", 2}, {"echo a; )", "", "shyard: 56\n", 2}, {"echo a, \n)\necho b", "a,\n", "shyard: 56\n", 2}, {"echo a\necho 'b", "a\n", "shyard: 53\n", 2}, {"echo a\necho `b`", "a\n", "shyard: 55\n", 2}, {rep("#", api.MaxText+1), "", "shyard: 50\n", 2}, {"exit 3\n)", "", "", 3}, {"x=$(echo b; fi); echo $? $x", "2\n", "shyard: 56\n", 0}, {"x=$(echo b\nfi); echo $? $x", "2 b\n", "shyard: 56\n", 0}, {rep("(", 25) + rep(")", 25), "", "shyard: 52\n", 2},
	})
}

// The parameters of Program: at most 200, else none; they aren't kept.
func TestProgramArgs(t *testing.T) {
	args := slices.Repeat([]string{"a"}, api.MaxArgs)
	p := eval.Program("echo $# $1 $0", "name", args)
	args[0] = "changed"
	for range 2 {
		if got := fresh().Run(p, ""); got.Out != "200 a name\n" {
			t.Error(got)
		}
	}
	if got := fresh().Run(eval.Program("echo $# $1.", "name", append(args, "b")), ""); got.Out != "0 .\n" {
		t.Error(got)
	}
}

// P20.1: limits of processes and descriptors are complained of.
func TestLimits(t *testing.T) {
	check(t, []row{
		{rep("(", 21) + ":" + rep(")", 21) + "; echo $?", "0\n", "", 0}, {rep("(", 24) + "echo in" + rep(")", 24) + "; echo $?", "in\n0\n", "", 0}, {"x=" + rep("$(echo ", 21) + "in" + rep(")", 21) + "; echo $x", "in\n", "", 0}, {"echo './s' >f; echo 'read x; [ $x = xxxxxxxxxxxxxxxxxxx ] && exit 7; echo x$x >f; ./s <f' >s; chmod 700 s; echo x >f; ./s <f", "", "", 7}, {"f() { (f; :); echo $?; }; f", "1\n" + rep("0\n", 21), "shyard: 11\n", 0}, {rep("cat | ", 21) + "cat >o; cat o", "l1 a b\n l2 \nlast", "", 0}, {rep(": | ", 30) + ":; echo no", "", "shyard: 11\n", 1}, {"for i in 3 4 5 6 7 8 9; do eval \"exec $i<t\"; done; echo a | cat | cat; echo $(echo b) >f; cat f", "a\nb\n", "", 0},
		{"f() { { f; } 3>&1; }; f; echo $?", "1\n", "shyard: 1: 24\n", 0}, {"f() { x=x$x; [ ${#x} -lt 24 ] && f; }; f <t; echo ${#x}", "24\n", "", 0}, {"x() { { { { { { { { { { { { { { { { { { { { { { { echo in; } 3>&1; } 3>&1; } 3>&1; } 3>&1; } 3>&1; } 3>&1; } 3>&1; } 3>&1; } 3>&1; } 3>&1; } 3>&1; } 3>&1; } 3>&1; } 3>&1; } 3>&1; } 3>&1; } 3>&1; } 3>&1; } 3>&1; } 3>&1; } 3>&1; }; }; x; echo $?", "in\n0\n", "", 0},
	})
}

// told is what a text leads to: outputs, the status, files; and whether nothing else is left.
func told(t *testing.T, text string, pick func(n int) (raw, fuel int)) string {
	k := gate.New()
	x := turn.New(k)
	k.Files().Mkdir(1, "d", 493)
	k.Type("typed 1\ntyped 2\n")
	k.End()
	k.Call(1, api.Call{No: api.SysFork})
	x.Start(2, eval.Program(text, "shyard", []string{"p", "q r"}))
	for n := 0; ; n++ {
		raw, fuel := pick(n)
		if pid, _ := x.Pick(raw, fuel); pid == 0 {
			break
		}
		counts(t, k)
	}
	if l := slices.Collect(k.Procs()); len(l) != 2 || !l[1].Ended {
		t.Fatalf("%s\nleft: %v", text, l)
	}
	end, _ := k.Call(1, api.Call{No: api.SysWait, A: 2, B: 1})
	n := 0
	for range k.Descs() {
		n++
	}
	if n != 3 {
		t.Fatalf("%s\n%d descriptions are left", text, n)
	}
	return fmt.Sprint(k.Output(1), "|", k.Output(2), "|", end.M, slices.Collect(k.Files().Tree()), k.Typed())
}

// counts asks that each description's count is how many descriptors name it.
func counts(t *testing.T, k *gate.Kernel) {
	refs := map[int]int{}
	for p := range k.Procs() {
		for _, n := range k.Table(p.Pid) {
			refs[n]++
		}
	}
	for n, d := range k.Descs() {
		if d.Refs != refs[n] {
			t.Fatal(n, d, refs[n])
		}
	}
}

// P20.1: in whatever turns the same, and what one command behind the other would do; P20.4: what is left.
func TestWhateverTurns(t *testing.T) {
	r := rand.New(rand.NewSource(34))
	for _, c := range []struct{ text, out string }{
		{"seq 100 | cat | sort -n -r | head -n 2", "100\n99\n"}, {"echo a b | wc -w; seq 3 | while read x; do echo $x $x; done | rev", "2\n1 1\n2 2\n3 3\n"}, {"x=$(seq 40 | tail -n 1); echo $x; (seq 30 | grep 3 | wc -l) >f; cat f", "40\n4\n"}, {"f() { cat; echo f; }; echo 1 | f | f | cat", "1\nf\nf\n"}, {"for i in 1 2 3; do echo $i; done | { read x; read y; echo $y$x; cat; }", "21\n3\n"}, {"seq 200 | tr 0-9 a-j | { cat; } | { cat; } | tail -n 1; cat", "caa\ntyped 1\ntyped 2\n"}, {"if echo a | grep b; then echo yes; else echo no | cat; fi; ! false | false; echo $?", "no\n0\n"}, {"cat <<E | sort | uniq -c\nb\na\nb\nE", "1 a\n2 b\n"}, {"x=$(echo $(echo $(seq 5 | rev))); echo $x | tr ' ' '\n' | wc -l", "5\n"}, {"cd d; echo x >f; (cd /; cat d/f | cat) | cat; read a; echo $a", "x\ntyped 1\n"}, {"{ echo 1; (echo 2; echo 3 | cat); echo 4; } | cat | tail -n 3; false | exit 3", "2\n3\n4\n"}, {"while :; do echo a; break; done | cat; : | : | :", "a\n"},
	} {
		want := told(t, c.text, func(int) (int, int) { return 0, 1 << 20 })
		if !strings.HasPrefix(want, c.out+"|") {
			t.Errorf("%s: %s", c.text, want)
		}
		for range 6 {
			most := 1 + r.Intn(9)
			if got := told(t, c.text, func(int) (int, int) { return r.Intn(99), 1 + r.Intn(most) }); got != want {
				t.Errorf("%s: %s, want %s", c.text, got, want)
			}
		}
		if got := told(t, c.text, func(int) (int, int) { return -1, 1 }); got != want {
			t.Errorf("%s: %s, want %s", c.text, got, want)
		}
	}
}

// P20.2: texts of any bytes go through quoting, parameters, functions, pipes, files, here-documents
// and substitutions as they are.
func TestAsItIs(t *testing.T) {
	r := rand.New(rand.NewSource(35))
	for range 150 {
		b := make([]byte, r.Intn(30))
		for i := range b {
			b[i] = "ab '\"\\$`*?~\n\n\t\x00\xff#&;|<>(){}=!"[r.Intn(28)]
		}
		s := string(b)
		q := octet.Quote(s)
		cut := strings.TrimRight(s, "\n")
		for text, want := range map[string]string{
			"printf %s " + q: s, "printf %s \"$(printf %s " + q + ")\"": cut, "x=" + q + "; printf %s \"$x\"": s, "f() { printf %s \"$1\"; }; f " + q: s, "printf %s " + q + " | cat | cat": s, "printf %s " + q + " >f; cat f": s, "x=" + q + "\ncat <<E\n$x\nE\n": s + "\n", "set -- " + q + "; for i; do printf %s \"$i\"; done": s, "case " + q + " in " + q + ") printf y;; esac": "y", "eval printf %s " + octet.Quote(q): s, "x=" + q + "; export x; printf %s \"${x#''}${y-$x}\"": s + s,
		} {
			if got := quiet.New().Run(eval.Program(text, "shyard", nil), ""); got != (quiet.Told{Out: want}) {
				t.Fatalf("%q: %+v, want %q", text, got, want)
			}
		}
	}
}

// P20.3: what ( .. ) does to variables and the directory shows nowhere behind it; exit N ends with N modulo 256.
func TestWithin(t *testing.T) {
	r := rand.New(rand.NewSource(36))
	parts := []string{"x=2", "cd d", "unset x", "set -- a", "umask 0", "f() { echo g; }", "export y=1", "readonly x", "shift", "IFS=:", "exec 3>&1", "exec >/f", "return 3", "read x", "eval 'x=3; cd /'", ": ${z:=1}", "x=$((x+1))", "for x in a b; do :; done"}
	const tell = "echo $x $y $z $# $1; pwd; umask; f; set; export; readonly; : >&3"
	for range 150 {
		var l []string
		for range 1 + r.Intn(4) {
			l = append(l, parts[r.Intn(len(parts))])
		}
		const ahead = "x=1; f() { echo f; }; "
		inner := strings.Join(l, "; ")
		plain := fresh().Run(eval.Program(ahead+tell, "shyard", []string{"p"}), "")
		for _, way := range []string{"(%s); ", "{ %s; } | :; ", ": | { %s; }; ", ": $(%s); "} {
			got := fresh().Run(eval.Program(ahead+fmt.Sprintf(way, inner)+tell, "shyard", []string{"p"}), "")
			got.Err = got.Err[strings.LastIndex(got.Err, "shyard: 3: 9"):]
			if got != plain {
				t.Fatalf("%s: %+v, want %+v", fmt.Sprintf(way, inner), got, plain)
			}
		}
		n := r.Int63n(5000)
		if got := fresh().Run(eval.Program(fmt.Sprintf("exit %d", n), "", nil), ""); got.Status != int(n%256) {
			t.Fatal(n, got)
		}
	}
}

// P20.4: behind a shell's end there are its process and what it never waited for, alone.
func TestLeft(t *testing.T) {
	for text, want := range map[string]int{
		"echo a | cat; (:); x=$(:)": 1, "cat & cat & :": 1, "cat </f & : & exit 3": 1, "{ cat; } & wait": 1, "read x <&- & exec true": 1,
	} {
		k := fresh()
		k.Call(1, api.Call{No: api.SysFork})
		k.Turn.Start(2, eval.Program(text, "shyard", nil))
		for k.Turn.Run(2, 1) > 0 || len(k.Turn.Ready()) > 0 {
			if l := k.Turn.Ready(); len(l) > 0 {
				k.Turn.Run(l[len(l)-1], 1)
			}
		}
		for p := range k.Procs() {
			if p.Pid == 1 {
				continue
			}
			if !p.Ended || p.Parent != 1 {
				t.Error(text, p)
			}
			if p.Pid == 2 {
				want--
			}
		}
		if want != 0 {
			t.Error(text, want)
		}
		for {
			if x, _ := k.Call(1, api.Call{No: api.SysWait, A: -1, B: 1}); x.Err != api.OK {
				break
			}
		}
		n := 0
		for range k.Descs() {
			n++
		}
		if n != 3 {
			t.Error(text, n)
		}
	}
}

// No text runs for ever without a call; the program may be stopped anywhere.
func TestCalls(t *testing.T) {
	for _, text := range []string{
		"while :; do :; done", "until ! :; do :; done", "while for x in; do :; done; do for x in; do :; done; done", "while case x in y) :;; esac; do f() { :; }; done", "while if f() { :; } then x=1; fi; do { x=2; }; done", "for i in 1 2 3; do while x=1; do continue 2; done; done; while :; do y=1; done", "f() { while g() { :; }; do :; done; }; f", "while ! { x=1; ! :; }; do :; done", "eval 'while :; do eval :; done'",
	} {
		n := 0
		for range eval.Program(text, "", nil) {
			if n++; n > 2000 {
				break
			}
		}
		if n <= 2000 {
			t.Error(text, "has ended")
		}
	}
	for _, text := range []string{"echo a | cat; x=$(echo b); (exit 3); echo c >f; read x; wait; . f; ./f; exec cat", "f() { f; }; f", "for i in 1 2; do case $i in *) umask;; esac; done"} {
		for stop := range 60 {
			n := 0
			for range eval.Program(text, "", nil) {
				if n++; n > stop {
					break
				}
			}
		}
	}
}
