package glob_test

import (
	"math"
	"math/rand"
	"slices"
	"strconv"
	"strings"
	"testing"

	"shyard/api"
	"shyard/files"
	"shyard/glob"
	"shyard/pattern"
)

// tree makes what is named; a path that ends with / is a directory's.
func tree(t *testing.T, paths ...string) *files.FS {
	f := files.New()
	for _, p := range paths {
		err := api.OK
		if strings.HasSuffix(p, "/") {
			err = f.Mkdir(1, p, 511)
		} else {
			_, err = f.Create(1, p, 511)
		}
		if err != api.OK {
			t.Fatal(p, err)
		}
	}
	return f
}

func at(t *testing.T, f *files.FS, path string) int {
	ino, err := f.Walk(1, path)
	if err != api.OK {
		t.Fatal(path, err)
	}
	return ino
}

// P9.1: what patterns match.
func TestPaths(t *testing.T) {
	f := tree(t, "d/", "d/f", "d/.h", "a", "d/e/", "d/e/x", "d/e/y", ".p/", ".p/q", "d-x", "b*c", "r/", "r/s/", "r/s/f", "x/", "x/f", "none/", "none/f", "look/", "look/f", "go/", "go/f")
	f.Chmod(at(t, f, "none"), 0)
	f.Chmod(at(t, f, "look"), 256)
	f.Chmod(at(t, f, "go"), 64)
	d := at(t, f, "d")
	for _, c := range []struct {
		dir  int
		p    string
		want string
	}{
		{1, "*", "a b*c d d-x go look none r x"}, {1, "*/*", "d/e d/f r/s x/f"}, {1, "d/.*", "d/.h"}, {1, "/d/f*", "/d/f"}, {1, "x*", "x"}, {1, "z*", ""}, {1, "d", ""}, {1, "", ""}, {1, "*/", "d/ go/ look/ none/ r/ x/"}, {1, "d*", "d d-x"}, {1, "?", "a d r x"},
		{1, "d*/f", "d/f"}, {1, "d*/*", "d/e d/f"}, {1, ".*", ".p"}, {1, "[.]p", ""}, {1, "?p", ""}, {1, `\.*`, ".p"}, {1, ".p/*", ".p/q"}, {1, "*/.h", "d/.h"}, {1, "*/.*", "d/.h"}, {1, "d/?h", ""}, {1, `b\**`, "b*c"}, {1, "b[*]c", "b*c"},
		{1, "//d///e//[xy]", "//d///e//x //d///e//y"}, {1, "d//*//", "d//e//"}, {1, "./d/f*", "./d/f"}, {1, "d/../a*", "d/../a"}, {1, "a/*", ""}, {1, "a/../*", ""}, {1, "*/../a", "d/../a go/../a r/../a x/../a"}, {1, "nothing/*", ""}, {1, "*/nothing", ""}, {1, "*/e/x", "d/e/x"},
		{1, "*/e/", "d/e/"}, {1, "*/f/", ""}, {1, "none/*", ""}, {1, "look/*", ""}, {1, "go/*", ""}, {1, "go/f*", ""}, {1, "*o*/f", "go/f"}, {1, "*o*/f*", ""}, {1, "none*", "none"}, {1, "/*", "/a /b*c /d /d-x /go /look /none /r /x"}, {1, "/../*/f", "/../d/f /../go/f /../x/f"},
		{d, "*", "e f"}, {d, "../a*", "../a"}, {d, "/a*", "/a"}, {d, "*/*", "e/x e/y"}, {d, "./*", "./e ./f"}, {d, ".*/*", ""}, {1, "[a/b]*", ""}, {1, "d[/]f", ""}, {1, "[d/]e", ""}, {1, `d\/[f]`, "d/f"}, {1, "d[", ""}, {1, "[a-", ""}, {1, "**", "a b*c d d-x go look none r x"}, {1, "*/*/*", "d/e/x d/e/y r/s/f"},
		{at(t, f, "a"), "*", ""}, {0, "*", ""}, {99, "/*", ""}, {-1, "*", ""}, {math.MaxInt, "*", ""}, {at(t, f, "none"), "*", ""}, {at(t, f, "none"), "/a*", "/a"}, {at(t, f, "look"), "*", ""}, {at(t, f, "go"), "*", ""}, {at(t, f, "go"), "f*", ""},
	} {
		got := glob.Paths(f, c.dir, pattern.Of(c.p))
		if strings.Join(got, " ") != c.want {
			t.Errorf("Paths(%d, %q): %q, want %s", c.dir, c.p, got, c.want)
		}
	}
	if glob.Paths(nil, 1, pattern.Of("*")) != nil {
		t.Error("nil")
	}
	f.Hold(d)
	for _, name := range []string{"d/e/x", "d/e/y", "d/f", "d/.h"} {
		f.Unlink(1, name)
	}
	f.Rmdir(1, "d/e")
	f.Rmdir(1, "d")
	if l := glob.Paths(f, d, pattern.Of("../*")); len(l) != 0 {
		t.Error(l)
	}
	if l := glob.Paths(f, d, pattern.Of("/a*")); len(l) != 1 {
		t.Error(l)
	}
}

// P9.1: Wild; quoted bytes are themselves.
func TestWild(t *testing.T) {
	for s, want := range map[string]bool{"*": true, "a/?": true, "[": true, `\*/\?\[`: false, "": false, "]!-": false} {
		if glob.Wild(pattern.Of(s)) != want {
			t.Error(s)
		}
	}
	f := tree(t, "a", "*")
	if l := glob.Paths(f, 1, append(pattern.Plain("*"), api.Char{B: '*'})); !slices.Equal(l, []string{"*"}) {
		t.Error(l)
	}
	if l := glob.Paths(f, 1, pattern.Plain("*")); len(l) != 0 {
		t.Error(l)
	}
}

// P9.1: the order of bytes, and the first 200.
func TestMany(t *testing.T) {
	f := tree(t, "a/", "a/x", "a-b/", "a-b/x")
	if l := glob.Paths(f, 1, pattern.Of("*/x")); !slices.Equal(l, []string{"a-b/x", "a/x"}) {
		t.Error(l)
	}
	f = tree(t, "f")
	var names []string
	for i := range 250 {
		name := "l" + strconv.Itoa(i)
		f.Link(1, "f", name)
		names = append(names, name)
	}
	slices.Sort(names)
	if l := glob.Paths(f, 1, pattern.Of("l*")); !slices.Equal(l, names[:200]) {
		t.Error(l)
	}
}

// P9.1: what is looked at is counted: each name that is matched, each piece that isn't wild.
func TestTried(t *testing.T) {
	make := func(n int) *files.FS {
		f := tree(t, "d/", "d/f", "e/")
		for i := range n {
			f.Link(1, "d/f", "e/l"+strconv.Itoa(i))
		}
		return f
	}
	for _, c := range []struct {
		names int
		p     string
		any   bool
	}{
		{1000, "/[e]/../e/l*", false}, {999, "e/l*", true}, {1000, "e/l*", false}, {1000, "e/[l]1", true}, {1000, "/e/l*", false}, {998, "e/./l*", true}, {999, "e/./l*", false}, {998, "*/l*", true}, {999, "*/l*", false},
		{332, "e/l*/x", false}, {499, "e/l*/x", false}, {500, "e/l*/x", false}, {499, "[e]/l*//", false}, {499, "e/l*", true}, {1200, "e/x*", false}, {1200, "e/l1", false},
	} {
		if l := glob.Paths(make(c.names), 1, pattern.Of(c.p)); len(l) > 0 != c.any {
			t.Errorf("%d %s: %d", c.names, c.p, len(l))
		}
	}
	f := tree(t, "a/", "b/", "c/", "d/")
	for _, dir := range []string{"a", "b", "c", "d"} {
		f.Create(1, dir+"/f", 0)
		for i := range 14 {
			f.Link(1, dir+"/f", dir+"/"+strconv.Itoa(i))
		}
	}
	// 4 + 4*4*.. paths: with .. the same directories are looked at again and again.
	if l := glob.Paths(f, 1, pattern.Of("*/../*/../*/../*/f")); len(l) != 200 {
		t.Error("4+4+16+16+64+64+256+256 are looked at:", len(l))
	}
	if l := glob.Paths(f, 1, pattern.Of("*/../*/../*/../*/../*/f")); len(l) != 0 {
		t.Error("more than 1000 are looked at:", len(l))
	}
}

// P9.1: paths of more than MaxPath bytes are let go.
func TestLong(t *testing.T) {
	f := files.New()
	path := ""
	name := strings.Repeat("n", 31)
	dir := 1
	for range 8 {
		if err := f.Mkdir(dir, name, 511); err != api.OK {
			t.Fatal(err)
		}
		next, _ := f.Walk(dir, name)
		dir = next
		path += "/" + name
	}
	f.Create(dir, "x", 0)
	parts := strings.Count(path, "/")
	p := strings.Repeat("/n*", parts)
	if l := glob.Paths(f, 1, pattern.Of(p)); !slices.Equal(l, []string{path}) || len(path) != 256 {
		t.Error(l, len(path))
	}
	for _, p := range []string{p + "/", "/" + p, p + "/x", p + "/*"} {
		if l := glob.Paths(f, 1, pattern.Of(p)); len(l) != 0 {
			t.Error(p, l)
		}
	}
	if l := glob.Paths(f, 1, pattern.Of(p[1:]+"/")); !slices.Equal(l, []string{path[1:] + "/"}) {
		t.Error(l)
	}
	if l := glob.Paths(f, 1, pattern.Of(strings.Repeat("*/", 1<<15))); len(l) != 0 {
		t.Error(l)
	}
	if l := glob.Paths(f, 1, pattern.Of("*"+strings.Repeat("/.", 1<<15))); len(l) != 0 {
		t.Error(l)
	}
}

func someTree(t *testing.T, r *rand.Rand) *files.FS {
	f := files.New()
	dirs := []string{""}
	for range r.Intn(14) {
		p := dirs[r.Intn(len(dirs))] + []string{"a", "b", ".a", "ab", "b-", "*"}[r.Intn(6)]
		if r.Intn(2) == 0 {
			f.Create(1, p, 511)
		} else if f.Mkdir(1, p, 511) == api.OK {
			dirs = append(dirs, p+"/")
		}
	}
	return f
}

// P9.1: among all paths of the tree those that match piece by piece; P9.2: each can be walked,
// and nothing is changed; R4: the pattern isn't changed.
func TestByChance(t *testing.T) {
	r := rand.New(rand.NewSource(17))
	hits := 0
	for range 20000 {
		f := someTree(t, r)
		was := slices.Collect(f.Tree())
		pieces := make([]string, 1+r.Intn(3))
		for i := range pieces {
			pieces[i] = []string{"*", "a", "?", "[ab]*", ".*", "*b*", "b-", `\*`, "a*"}[r.Intn(9)]
		}
		text := strings.Join(pieces, "/")
		p := pattern.Of(text)
		kept := slices.Clone(p)
		got := glob.Paths(f, 1, p)
		var want []string
		for _, e := range was {
			names := strings.Split(e.Path, "/")
			fits := len(names) == len(pieces) && glob.Wild(p)
			for i := 0; fits && i < len(pieces); i++ {
				fits = pattern.Match(pattern.Of(pieces[i]), names[i]) && (names[i][0] != '.' || pieces[i][0] == '.')
			}
			if fits {
				want = append(want, e.Path)
			}
		}
		slices.Sort(want)
		if !slices.Equal(got, want) {
			t.Fatalf("%q of %v: %q, want %q", text, was, got, want)
		}
		hits += len(got)
		for _, path := range got {
			if _, err := f.Walk(1, path); err != api.OK {
				t.Fatal(path, err)
			}
		}
		if !slices.Equal(was, slices.Collect(f.Tree())) || !slices.Equal(p, kept) {
			t.Fatal("changed")
		}
	}
	if hits < 5000 {
		t.Error("too few hits:", hits)
	}
}

// P9.3: a quoted text and a * give the names that begin so.
func TestBeginnings(t *testing.T) {
	r := rand.New(rand.NewSource(18))
	for range 5000 {
		f := someTree(t, r)
		begin := []string{"", "a", "b", ".", "*", "b-"}[r.Intn(6)]
		got := glob.Paths(f, 1, append(pattern.Plain(begin), api.Char{B: '*'}))
		names, _ := f.List(1)
		want := slices.DeleteFunc(names, func(s string) bool {
			return !strings.HasPrefix(s, begin) || begin == "" && s[0] == '.'
		})
		if !slices.Equal(got, want) {
			t.Fatal(begin, got, want)
		}
	}
}
