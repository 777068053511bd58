package files_test

import (
	"math"
	"math/rand"
	"reflect"
	"slices"
	"strconv"
	"strings"
	"testing"

	"shyard/api"
	"shyard/files"
)

var rep = strings.Repeat

// sample: d (2) with f (3) and e (4), which has g (5); h (6); locked (7) of mode 0 with x (8); noread... as told.
func sample(t *testing.T) *files.FS {
	f := files.New()
	must := func(err api.Errno) {
		if err != api.OK {
			t.Fatal(err)
		}
	}
	make := func(path string, mode, want int) {
		ino, err := f.Create(1, path, mode)
		if ino != want || err != api.OK {
			t.Fatal(path, ino, err)
		}
	}
	must(f.Mkdir(1, "d", 493))
	make("d/f", 420, 3)
	must(f.Mkdir(1, "d/e", 448))
	make("/d/e/g", 0, 5)
	make("h", 511, 6)
	must(f.Mkdir(1, "locked", 511))
	make("locked/x", 420, 8)
	must(f.Chmod(7, 0))
	must(f.Mkdir(1, "fixed", 493)) // 9: may be searched, not written
	make("fixed/y", 420, 10)
	must(f.Chmod(9, 320))
	must(f.Mkdir(1, "gone", 511)) // 11: removed, held
	must(f.Hold(11))
	must(f.Rmdir(1, "gone"))
	return f
}

// seen is all that can be told of a tree.
func seen(f *files.FS) string {
	var b strings.Builder
	for e := range f.Tree() {
		b.WriteString(e.Path + ":" + strconv.Itoa(e.Kind) + ":" + strconv.Itoa(e.Mode) + ":" + e.Data + "\n")
	}
	for ino := range api.MaxInodes + 3 {
		s, err := f.Stat(ino)
		data, _ := f.Read(ino, 0, math.MaxInt)
		names, _ := f.List(ino)
		path, perr := f.Path(ino)
		if err == api.OK {
			b.WriteString(strings.Join(append(names, strconv.Itoa(s.Ino), strconv.Itoa(s.Kind), strconv.Itoa(s.Mode), strconv.Itoa(s.Links), strconv.Itoa(s.Size), data, path, strconv.Itoa(int(perr))), ",") + "\n")
		}
	}
	return b.String() + strconv.Itoa(f.Count()) + " " + strconv.Itoa(f.Bytes())
}

// P8.1: where paths lead.
func TestWalk(t *testing.T) {
	f := sample(t)
	for _, c := range []struct {
		dir  int
		path string
		ino  int
		err  api.Errno
	}{
		{1, "/", 1, 0}, {1, "//", 1, 0}, {4, "/", 1, 0}, {1, ".", 1, 0}, {1, "..", 1, 0}, {1, "d", 2, 0}, {1, "d/", 2, 0}, {1, "d//f", 3, 0}, {1, "/d/./f", 3, 0}, {4, "g", 5, 0}, {4, "../f", 3, 0}, {4, "../../h", 6, 0}, {4, "../../../../h", 6, 0}, {1, "d/e/..", 2, 0},
		{1, "", 0, api.ENOENT}, {0, "", 0, api.EBADF}, {1, rep("/", 257), 0, api.ETOOLONG}, {1, rep("/", 256), 1, 0}, {1, rep("./", 128), 1, 0}, {1, "x", 0, api.ENOENT}, {1, "x/y", 0, api.ENOENT}, {1, "x/", 0, api.ENOENT}, {1, "h/", 0, api.ENOTDIR}, {1, "h/x", 0, api.ENOTDIR}, {1, "h/.", 0, api.ENOTDIR}, {1, "h/..", 0, api.ENOTDIR},
		{1, "d/f/" + rep("x", 33), 0, api.ENOTDIR}, {1, rep("x", 33), 0, api.ETOOLONG}, {1, rep("x", 32), 0, api.ENOENT}, {1, "y/" + rep("x", 33), 0, api.ENOENT}, {1, "locked", 7, 0}, {1, "locked/", 7, 0}, {1, "locked/x", 0, api.EACCES}, {1, "locked/.", 0, api.EACCES}, {1, "locked/..", 0, api.EACCES}, {1, "locked/" + rep("x", 33), 0, api.EACCES}, {7, "x", 0, api.EACCES}, {7, "/h", 6, 0},
		{11, ".", 11, 0}, {11, "./.", 11, 0}, {11, "..", 0, api.ENOENT}, {11, "x", 0, api.ENOENT}, {11, "/d", 2, 0}, {3, "/", 0, api.EBADF}, {12, "/", 0, api.EBADF}, {-1, "/", 0, api.EBADF}, {math.MaxInt, "/", 0, api.EBADF}, {math.MinInt, "/", 0, api.EBADF},
	} {
		if ino, err := f.Walk(c.dir, c.path); ino != c.ino || err != c.err {
			t.Errorf("Walk(%d, %.40q): %d %d", c.dir, c.path, ino, err)
		}
	}
}

// P8.1, P8.2: what is refused, in the order of the errors; nothing changes.
func TestRefused(t *testing.T) {
	f := sample(t)
	long := rep("x", 33)
	ahead := []struct {
		dir  int
		path string
		err  api.Errno
	}{ // of all calls that walk ahead
		{0, "", api.EBADF}, {3, "a", api.EBADF}, {12, "a", api.EBADF}, {-5, "a", api.EBADF}, {1, "", api.ENOENT}, {1, rep("a", 257), api.ETOOLONG}, {1, rep("/", 257), api.ETOOLONG}, {1, "x/a", api.ENOENT}, {1, "h/a", api.ENOTDIR}, {1, "h/.", api.ENOTDIR}, {1, "h/" + long, api.ENOTDIR}, {1, "h/a/b", api.ENOTDIR},
		{1, "locked/a", api.EACCES}, {1, "locked/..", api.EACCES}, {1, "locked/" + long, api.EACCES}, {1, "locked/a/b", api.EACCES}, {7, ".", api.EACCES}, {1, "/", api.EINVAL}, {1, "//", api.EINVAL}, {1, ".", api.EINVAL}, {1, "..", api.EINVAL}, {1, "d/.", api.EINVAL}, {1, "d/../", api.EINVAL}, {1, long, api.ETOOLONG}, {1, "d/" + long + "/", api.ETOOLONG}, {1, long + "/a", api.ETOOLONG}, {11, "../a", api.ENOENT},
	}
	create := func(dir int, path string) api.Errno { _, err := f.Create(dir, path, 420); return err }
	mkdir := func(dir int, path string) api.Errno { return f.Mkdir(dir, path, 420) }
	linkTo := func(dir int, path string) api.Errno { return f.Link(dir, "/h", path) }
	moveTo := func(dir int, path string) api.Errno { return f.Rename(dir, "/d/f", path) }
	moveFrom := func(dir int, path string) api.Errno { return f.Rename(dir, path, "/new") }
	calls := map[string]func(int, string) api.Errno{"create": create, "mkdir": mkdir, "unlink": f.Unlink, "rmdir": f.Rmdir, "link": linkTo, "rename to": moveTo, "rename": moveFrom}
	was := seen(f)
	for name, call := range calls {
		for _, c := range ahead {
			if err := call(c.dir, c.path); err != c.err {
				t.Errorf("%s %d %.40q: %d, want %d", name, c.dir, c.path, err, c.err)
			}
		}
	}
	// What is asked of the directory comes ahead of what is asked of the last piece.
	f.Chmod(1, 0)
	for name, call := range calls {
		for _, path := range []string{"/", "/.", "/a", "/" + long} {
			if err := call(2, path); err != api.EACCES {
				t.Errorf("%s %.40q: %d", name, path, err)
			}
		}
	}
	f.Chmod(1, 493)
	for i, c := range []struct{ got, want api.Errno }{
		{create(1, "a/"), api.EISDIR}, {create(1, "h/"), api.EISDIR}, {create(1, "d/"), api.EISDIR}, {create(11, "a/"), api.EISDIR}, {create(1, "h"), api.EEXIST}, {create(1, "d"), api.EEXIST}, {create(1, "fixed/y"), api.EEXIST}, {create(11, "a"), api.ENOENT}, {create(1, "fixed/a"), api.EACCES},
		{mkdir(1, "h"), api.EEXIST}, {mkdir(1, "h/"), api.EEXIST}, {mkdir(1, "d/"), api.EEXIST}, {mkdir(11, "a"), api.ENOENT}, {mkdir(1, "fixed/a/"), api.EACCES},
		{f.Unlink(1, "x"), api.ENOENT}, {f.Unlink(1, "x/"), api.ENOENT}, {f.Unlink(1, "h/"), api.ENOTDIR}, {f.Unlink(1, "d"), api.EISDIR}, {f.Unlink(1, "d/"), api.EISDIR}, {f.Unlink(1, "fixed/y"), api.EACCES}, {f.Unlink(1, "fixed/y/"), api.ENOTDIR}, {f.Unlink(1, "locked"), api.EISDIR}, {f.Unlink(11, "a"), api.ENOENT},
		{f.Rmdir(1, "x"), api.ENOENT}, {f.Rmdir(1, "h"), api.ENOTDIR}, {f.Rmdir(1, "h/"), api.ENOTDIR}, {f.Rmdir(1, "d"), api.ENOTEMPTY}, {f.Rmdir(1, "d/e/"), api.ENOTEMPTY}, {f.Rmdir(1, "locked"), api.ENOTEMPTY}, {f.Rmdir(1, "fixed/y"), api.ENOTDIR},
		{f.Link(1, "x", "a"), api.ENOENT}, {f.Link(1, "d", "a"), api.EISDIR}, {f.Link(1, "d/", ""), api.EISDIR}, {f.Link(1, "h/", "a"), api.ENOTDIR}, {f.Link(1, "h", "a/"), api.EISDIR}, {f.Link(1, "h", "d/"), api.EISDIR}, {f.Link(1, "h", "d"), api.EEXIST}, {f.Link(1, "h", "h"), api.EEXIST}, {f.Link(1, "h", "fixed/y"), api.EEXIST}, {f.Link(1, "h", "fixed/a"), api.EACCES}, {f.Link(11, "/h", "a"), api.ENOENT}, {f.Link(1, "locked/x", ""), api.EACCES}, {f.Link(1, "", ""), api.ENOENT},
		{f.Rename(1, "x", ""), api.ENOENT}, {f.Rename(1, "h/", ""), api.ENOTDIR}, {f.Rename(1, "h", "a/"), api.ENOTDIR}, {f.Rename(1, "h", "d/"), api.ENOTDIR}, {f.Rename(11, "/h", "a"), api.ENOENT}, {f.Rename(1, "h", "fixed/a"), api.EACCES}, {f.Rename(1, "fixed/y", "a"), api.EACCES}, {f.Rename(1, "fixed/y", "fixed/y"), api.EACCES}, {f.Rename(1, "d", "h"), api.ENOTDIR}, {f.Rename(1, "h", "d"), api.EISDIR}, {f.Rename(1, "d", "d/e/n"), api.EINVAL}, {f.Rename(1, "d", "d/e"), api.EINVAL}, {f.Rename(1, "d", "d/n/"), api.EINVAL}, {f.Rename(1, "d", "d/f"), api.ENOTDIR},
		{f.Rename(1, "d/e", "d"), api.ENOTEMPTY}, {f.Rename(1, "locked", "d"), api.ENOTEMPTY}, {f.Rename(1, "h", "h"), api.OK}, {f.Rename(1, "d/", "d"), api.OK}, {f.Rename(1, "d/e", "d/../d/e/"), api.OK},
		{f.Chmod(0, 1), api.EBADF}, {f.Chmod(12, 1), api.EBADF}, {f.Hold(0), api.EBADF}, {f.Drop(99), api.EBADF}, {f.Drop(3), api.EINVAL}, {f.Drop(1), api.EINVAL}, {f.Truncate(0, 0), api.EBADF}, {f.Truncate(1, -1), api.EISDIR}, {f.Truncate(3, -1), api.EINVAL}, {f.Truncate(3, math.MinInt), api.EINVAL}, {f.Truncate(3, 65537), api.ENOSPC}, {f.Truncate(3, math.MaxInt), api.ENOSPC},
	} {
		if c.got != c.want {
			t.Errorf("%d: %d, want %d", i, c.got, c.want)
		}
	}
	if now := seen(f); now != was {
		t.Errorf("%s\nwas\n%s", now, was)
	}
}

// P8.1: what is made, moved, linked and taken away.
func TestChanges(t *testing.T) {
	f := files.New()
	do := func(err, want api.Errno) {
		t.Helper()
		if err != want {
			t.Fatal(err, want)
		}
	}
	do(f.Mkdir(1, "d/", 512+493), 0)
	do(f.Mkdir(1, "d/e", -1), 0)
	ino, err := f.Create(2, "f", -512+7)
	do(err, 0)
	for n, want := range map[int]api.Stat{1: {Ino: 1, Kind: api.Dir, Mode: 493, Links: 1, Size: 1}, 2: {Ino: 2, Kind: api.Dir, Mode: 493, Links: 1, Size: 2}, 3: {Ino: 3, Kind: api.Dir, Mode: 511, Links: 1}, 4: {Ino: 4, Kind: api.File, Mode: 7, Links: 1}} {
		if s, err := f.Stat(n); s != want || err != 0 {
			t.Error(s, err)
		}
	}
	do(f.Link(1, "d/f", "d/e/g"), 0)
	do(f.Link(1, "d/e/g", "k"), 0)
	if s, _ := f.Stat(ino); s.Links != 3 {
		t.Error(s)
	}
	do(f.Rename(1, "k", "d/f"), 0) // the same inode: both stay
	if s, _ := f.Stat(ino); s.Links != 3 {
		t.Error(s)
	}
	do(f.Unlink(1, "k"), 0)
	do(f.Rename(1, "d", "m/"), 0)
	if p, err := f.Path(3); p != "/m/e" || err != 0 {
		t.Error(p, err)
	}
	do(f.Mkdir(1, "a", 493), 0) // 5
	do(f.Mkdir(1, "b", 493), 0) // 6
	do(f.Rename(1, "m/e", "a/e"), 0)
	if at, err := f.Walk(3, ".."); at != 5 || err != 0 {
		t.Error(at, err)
	}
	do(f.Rename(1, "a/e", "b"), 0) // over an empty directory: 6 is free
	if names, _ := f.List(1); !slices.Equal(names, []string{"a", "b", "m"}) {
		t.Error(names)
	}
	if at, _ := f.Walk(1, "b"); at != 3 {
		t.Error(at)
	}
	_, err = f.Stat(6)
	do(err, api.EBADF)
	other, err := f.Create(1, "o", 384)
	do(err, 0)
	if other != 6 {
		t.Error(other)
	}
	do(f.Rename(1, "o", "m/f"), 0) // over a file that has another name
	if s, _ := f.Stat(ino); s.Links != 1 {
		t.Error(s)
	}
	do(f.Rename(1, "m/f", "b/g"), 0) // over a file that has no other name
	_, err = f.Stat(ino)
	do(err, api.EBADF)
	do(f.Rmdir(1, "m/"), 0)
	do(f.Rmdir(1, "a"), 0)
	do(f.Chmod(6, 512+256), 0)
	if got := seen(f); !strings.HasPrefix(got, "b:2:511:\nb/g:1:256:\nb,1,2,493,1,1,,/,0\n") {
		t.Error(got)
	}
	if !f.May(1, 1) || !f.May(1, 7) || f.May(6, 1) || f.May(6, 7) || f.May(1, 0) || f.May(1, 8) || f.May(1, -1) {
		t.Error("May")
	}
	for want, c := range map[int][2]int{0: {6, 2}, 1: {6, 4}, 2: {6, 0}, 3: {6, 8}, 4: {3, 7}, 5: {1, 5}, 6: {99, 4}, 7: {6, -4}, 8: {6, 12}, 9: {3, math.MinInt}} {
		if may := f.May(c[0], c[1]); may != (want == 1 || want == 4 || want == 5) {
			t.Error(c, may)
		}
	}
}

// P8.1: bytes.
func TestBytes(t *testing.T) {
	f := files.New()
	f.Create(1, "a", 0)
	f.Create(1, "b", 0)
	write := func(ino, at int, s string, n int, err api.Errno) {
		t.Helper()
		if m, e := f.Write(ino, at, s); m != n || e != err {
			t.Errorf("Write(%d, %d, %.9q): %d %d", ino, at, s, m, e)
		}
	}
	read := func(ino, at, n int, want string, err api.Errno) {
		t.Helper()
		if s, e := f.Read(ino, at, n); s != want || e != err {
			t.Errorf("Read(%d, %d, %d): %.40q %d", ino, at, n, s, e)
		}
	}
	write(2, 2, "x", 1, 0)
	read(2, 0, 9, "\x00\x00x", 0)
	write(2, 1, "yz\xff", 3, 0)
	read(2, 1, 2, "yz", 0)
	read(2, 3, math.MaxInt, "\xff", 0)
	read(2, 4, 1, "", 0)
	read(2, math.MaxInt, math.MaxInt, "", 0)
	read(2, 0, 0, "", 0)
	read(2, -1, 1, "", api.EINVAL)
	read(2, 1, -1, "", api.EINVAL)
	read(1, -1, 1, "", api.EISDIR)
	read(9, -1, 1, "", api.EBADF)
	write(2, 9, "", 0, 0)
	read(2, 0, 99, "\x00yz\xff", 0)
	write(1, -1, "", 0, api.EISDIR)
	write(0, -1, "", 0, api.EBADF)
	write(2, -1, rep("x", 70000), 0, api.EINVAL)
	write(2, math.MinInt, "", 0, api.EINVAL)
	write(3, 65536, "", 0, 0)
	write(3, 65537, "", 0, api.ENOSPC)
	write(3, math.MaxInt, "x", 0, api.ENOSPC)
	write(3, 65531, "xx", 0, api.ENOSPC)
	write(3, 65531, "x", 1, 0)
	if f.Bytes() != 65536 {
		t.Error(f.Bytes())
	}
	write(2, 4, "x", 0, api.ENOSPC)
	write(2, 4, "", 0, 0)
	write(2, 3, "w", 1, 0)
	if err := f.Truncate(2, 5); err != api.ENOSPC {
		t.Error(err)
	}
	if err := f.Truncate(3, 2); err != 0 || f.Bytes() != 6 {
		t.Error(err)
	}
	f.Write(3, 0, "pq")
	f.Truncate(3, 1)
	if err := f.Truncate(3, 3); err != 0 {
		t.Error(err)
	}
	read(3, 0, 9, "p\x00\x00", 0)
	f.Truncate(3, 0)
	read(3, 0, 9, "", 0)
	if err := f.Truncate(3, 65536-4); err != 0 {
		t.Error(err)
	}
	f.Truncate(2, 0)
	if err := f.Truncate(3, 65536); err != 0 || f.Bytes() != 65536 {
		t.Error(err)
	}
}

// P8.1: List, Path, Tree.
func TestTold(t *testing.T) {
	f := sample(t)
	for ino, want := range map[int]string{1: "/", 2: "/d", 4: "/d/e", 7: "/locked"} {
		if p, err := f.Path(ino); p != want || err != 0 {
			t.Error(ino, p, err)
		}
	}
	for ino, want := range map[int]api.Errno{3: api.ENOTDIR, 11: api.ENOENT, 12: api.EBADF, 0: api.EBADF} {
		if p, err := f.Path(ino); p != "" || err != want {
			t.Error(ino, p, err)
		}
	}
	for ino, want := range map[int]api.Errno{3: api.ENOTDIR, 12: api.EBADF, 11: 0} {
		if l, err := f.List(ino); len(l) != 0 || err != want {
			t.Error(ino, l, err)
		}
	}
	l, _ := f.List(1)
	if !slices.Equal(l, []string{"d", "fixed", "h", "locked"}) {
		t.Error(l)
	}
	l[0] = "changed"
	if again, _ := f.List(1); again[0] != "d" {
		t.Error("the list that was answered is the tree's own")
	}
	var paths []string
	seq := f.Tree()
	for range 2 {
		paths = nil
		for e := range seq {
			paths = append(paths, e.Path)
		}
	}
	if !slices.Equal(paths, []string{"d", "d/e", "d/e/g", "d/f", "fixed", "fixed/y", "h", "locked", "locked/x"}) {
		t.Error(paths)
	}
	for stop := range 10 {
		n := 0
		for range seq {
			if n++; n > stop {
				break
			}
		}
	}
	f.Create(1, "c", 0)
	paths = nil
	for e := range seq {
		paths = append(paths, e.Path)
		f.Unlink(1, "d/f")
		f.Unlink(1, "h")
		if e.Path == "d/e" {
			f.Unlink(1, "d/e/g")
			f.Rmdir(1, "d/e")
			f.Rmdir(1, "d")
		}
	}
	if !slices.Equal(paths, []string{"c", "d", "d/e", "fixed", "fixed/y", "locked", "locked/x"}) {
		t.Error(paths)
	}
}

// P8.1: a directory that goes while the tree is gone through: what is behind it is told.
func TestTreeMeanwhile(t *testing.T) {
	f := files.New()
	f.Mkdir(1, "d", 511)
	for _, path := range []string{"d/a", "d/b", "d/c", "e"} {
		f.Create(1, path, 0)
	}
	var l []string
	for e := range f.Tree() {
		l = append(l, e.Path)
		if e.Path == "d/a" {
			for _, path := range []string{"d/a", "d/b", "d/c"} {
				f.Unlink(1, path)
			}
			f.Rmdir(1, "d")
		}
	}
	if !slices.Equal(l, []string{"d", "d/a", "e"}) {
		t.Error(l)
	}
}

// P8.1: the limits of inodes, names and paths.
func TestLimits(t *testing.T) {
	f := files.New()
	for i := range api.MaxInodes - 1 {
		if ino, err := f.Create(1, "f"+strconv.Itoa(i), 0); ino != i+2 || err != 0 {
			t.Fatal(ino, err)
		}
	}
	was := seen(f)
	if _, err := f.Create(1, "x", 0); err != api.ENFILE {
		t.Error(err)
	}
	if err := f.Mkdir(1, "x", 0); err != api.ENFILE || f.Count() != api.MaxInodes || seen(f) != was {
		t.Error(err)
	}
	if err := f.Link(1, "f0", "x"); err != 0 {
		t.Error(err)
	}
	if _, err := f.Create(1, "x", 0); err != api.EEXIST {
		t.Error(err)
	}
	f.Hold(5)
	f.Unlink(1, "f3")
	if err := f.Mkdir(1, "d", 0); err != api.ENFILE {
		t.Error("one that is held is there:", err)
	}
	f.Unlink(1, "f7")
	f.Unlink(1, "f50")
	if ino, err := f.Create(1, rep("n", 32), 0); ino != 9 || err != 0 {
		t.Error(ino, err)
	}
	f.Drop(5)
	if ino, err := f.Create(1, "y", 0); ino != 5 || err != 0 {
		t.Error(ino, err)
	}
	if _, err := f.Create(1, rep("n", 33), 0); err != api.ETOOLONG {
		t.Error(err)
	}
}

// P8.3: what is held stays, with its bytes, whatever is unlinked.
func TestHeld(t *testing.T) {
	f := files.New()
	f.Mkdir(1, "d", 511)
	ino, _ := f.Create(1, "d/f", 511)
	f.Write(ino, 0, "abc")
	f.Hold(ino)
	f.Hold(ino)
	f.Hold(2)
	f.Unlink(1, "d/f")
	f.Rmdir(1, "d")
	other, _ := f.Create(1, "g", 511)
	f.Rename(1, "g", "k")
	if other != 4 || f.Count() != 4 || f.Bytes() != 3 {
		t.Error(other, f.Count(), f.Bytes())
	}
	f.Write(ino, 3, "d")
	if s, err := f.Stat(ino); s != (api.Stat{Ino: ino, Kind: api.File, Mode: 511, Size: 4}) || err != 0 {
		t.Error(s, err)
	}
	if s, err := f.Stat(2); s != (api.Stat{Ino: 2, Kind: api.Dir, Mode: 511}) || err != 0 {
		t.Error(s, err)
	}
	f.Drop(ino)
	if s, err := f.Read(ino, 0, 9); s != "abcd" || err != 0 {
		t.Error(s, err)
	}
	f.Drop(ino)
	if _, err := f.Read(ino, 0, 9); err != api.EBADF || f.Bytes() != 0 {
		t.Error(err)
	}
	f.Drop(2)
	if err := f.Drop(2); err != api.EBADF || f.Count() != 2 {
		t.Error(err, f.Count())
	}
}

// P8.2: over many calls made by chance a refused one changes nothing, Bytes is the sum of all sizes,
// Count the inodes that are named or held.
func TestByChance(t *testing.T) {
	r := rand.New(rand.NewSource(16))
	oks := 0
	for range 30 {
		f := files.New()
		holds := map[int]int{}
		dirs := []int{1}
		for range 200 {
			was := seen(f)
			path := func() string {
				s := []string{"", "/", ""}[r.Intn(3)]
				for range 1 + r.Intn(3) {
					s += []string{"a", "b", "c", "d", ".", "..", "a/"}[r.Intn(7)] + "/"
				}
				return strings.TrimSuffix(s, [2]string{"/", ""}[r.Intn(8)/7])
			}
			dir, ino := dirs[r.Intn(len(dirs))], r.Intn(9)
			var err api.Errno
			switch r.Intn(12) {
			case 0, 1:
				_, err = f.Create(dir, path(), 511-r.Intn(2)*r.Intn(512))
			case 2, 3:
				err = f.Mkdir(dir, path(), 511-r.Intn(9)/8*r.Intn(512))
			case 4:
				err = f.Unlink(dir, path())
			case 5:
				err = f.Rmdir(dir, path())
			case 6:
				err = f.Link(dir, path(), path())
			case 7:
				err = f.Rename(dir, path(), path())
			case 8:
				_, err = f.Write(ino, r.Intn(70000), rep("x", r.Intn(4)))
			case 9:
				err = f.Truncate(ino, r.Intn(70000))
			case 10:
				if err = f.Hold(ino); err == 0 {
					holds[ino]++
				}
			case 11:
				if err = f.Drop(ino); err == 0 {
					holds[ino]--
				}
			}
			if now := seen(f); err != 0 && now != was {
				t.Fatalf("%d:\n%s\nwas\n%s", err, now, was)
			} else if err == 0 {
				oks++
			}
			named, sum := map[int]bool{1: true}, 0
			dirs = []int{1}
			for e := range f.Tree() {
				named[inodeAt(f, e.Path)] = true
			}
			for n := 1; n <= api.MaxInodes; n++ {
				s, err := f.Stat(n)
				if (err == 0) != (named[n] || holds[n] > 0) {
					t.Fatal(n, err, named[n], holds[n])
				}
				if s.Kind == api.Dir {
					dirs = append(dirs, n)
				} else {
					sum += s.Size
				}
				if holds[n] > 0 {
					named[n] = true
				}
			}
			if f.Bytes() != sum || f.Count() != len(named) {
				t.Fatal(f.Bytes(), sum, f.Count(), len(named))
			}
		}
	}
	if oks < 500 {
		t.Error("too few that are OK:", oks)
	}
}

// inodeAt goes a path by the lists of names, not asking what may be searched.
func inodeAt(f *files.FS, path string) int {
	for n := 1; n <= api.MaxInodes; n++ {
		if p, err := f.Path(n); err == 0 && p == "/"+path {
			return n
		}
	}
	i := strings.LastIndex("/"+path, "/")
	dir := inodeAt(f, strings.TrimSuffix(path[:i], "/"))
	if i == 0 {
		dir = 1
	}
	s, _ := f.Stat(dir)
	f.Chmod(dir, 511)
	ino, _ := f.Walk(dir, path[i:])
	f.Chmod(dir, s.Mode)
	return ino
}

// P8.1: of a nil tree nothing.
func TestNil(t *testing.T) {
	var f *files.FS
	n, err := f.Walk(1, "/")
	m, err2 := f.Create(1, "a", 0)
	s, err3 := f.Read(1, 0, 1)
	w, err4 := f.Write(1, 0, "x")
	st, err5 := f.Stat(1)
	l, err6 := f.List(1)
	p, err7 := f.Path(1)
	if n != 0 || m != 0 || s != "" || w != 0 || st != (api.Stat{}) || l != nil || p != "" || f.May(1, 1) || f.Bytes() != 0 || f.Count() != 0 {
		t.Error("nil tells something")
	}
	for i, e := range []api.Errno{err, err2, err3, err4, err5, err6, err7, f.Mkdir(1, "a", 0), f.Unlink(1, "a"), f.Rmdir(1, "a"), f.Link(1, "a", "b"), f.Rename(1, "a", "b"), f.Truncate(1, 0), f.Chmod(1, 0), f.Hold(1), f.Drop(1)} {
		if e != api.EBADF {
			t.Error(i, e)
		}
	}
	for e := range f.Tree() {
		t.Error(e)
	}
	if !reflect.DeepEqual(files.New(), files.New()) {
		t.Error("New")
	}
}
