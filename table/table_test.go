package table_test

import (
	"maps"
	"math"
	"math/rand"
	"slices"
	"testing"

	"shyard/api"
	"shyard/table"
)

type tab = table.Table[string]

func put(t *testing.T, x *tab, s string, least, fd int, err api.Errno) {
	t.Helper()
	if n, e := x.Put(s, least); n != fd || e != err {
		t.Errorf("Put(%s, %d): %d %d, want %d %d", s, least, n, e, fd, err)
	}
}

func all(x *tab) map[int]string { return maps.Collect(x.All()) }

// P11.1: each call's answers.
func TestCalls(t *testing.T) {
	x := table.New[string]()
	if x.Free() != 32 || len(all(x)) != 0 || len(x.Exec()) != 0 {
		t.Error("New")
	}
	put(t, x, "a", 0, 0, 0)
	put(t, x, "b", 0, 1, 0)
	put(t, x, "c", 5, 5, 0)
	put(t, x, "z", 31, 31, 0)
	put(t, x, "z", 31, 0, api.EMFILE)
	for _, n := range []int{-1, 32, math.MaxInt, math.MinInt} {
		put(t, x, "x", n, 0, api.EINVAL)
		if s, had, err := x.Set(n, "x"); s != "" || had || err != api.EBADF {
			t.Error(n, s, had, err)
		}
	}
	if s, err := x.Cut(0); s != "a" || err != 0 {
		t.Error(s, err)
	}
	put(t, x, "d", 0, 0, 0)
	if s, had, err := x.Set(1, "e"); s != "b" || !had || err != 0 {
		t.Error(s, had, err)
	}
	if s, had, err := x.Set(9, "f"); s != "" || had || err != 0 {
		t.Error(s, had, err)
	}
	if s, err := x.Get(9); s != "f" || err != 0 {
		t.Error(s, err)
	}
	for _, n := range []int{2, -1, 32, math.MaxInt, math.MinInt} {
		s, err := x.Get(n)
		c, err2 := x.Cut(n)
		if s != "" || c != "" || err != api.EBADF || err2 != api.EBADF || x.Mark(n, true) != api.EBADF || x.Mark(n, false) != api.EBADF || x.Marked(n) {
			t.Error(n, s, c, err, err2)
		}
	}
	x.Mark(5, true)
	x.Mark(9, true)
	x.Mark(31, true)
	x.Mark(31, false)
	if !x.Marked(5) || !x.Marked(9) || x.Marked(31) || x.Marked(0) {
		t.Error("marks")
	}
	if l := x.Exec(); !slices.Equal(l, []string{"c", "f"}) {
		t.Error(l)
	}
	if m := all(x); !maps.Equal(m, map[int]string{0: "d", 1: "e", 31: "z"}) || x.Free() != 29 {
		t.Error(m, x.Free())
	}
}

// P11.1: what is given anew is unmarked.
func TestUnmarked(t *testing.T) {
	x := table.New[string]()
	put(t, x, "a", 3, 3, 0)
	x.Mark(3, true)
	x.Set(3, "b")
	if x.Marked(3) {
		t.Error("Set")
	}
	x.Mark(3, true)
	x.Cut(3)
	if x.Marked(3) {
		t.Error("Cut")
	}
	put(t, x, "c", 3, 3, 0)
	if x.Marked(3) || len(x.Exec()) != 0 {
		t.Error("Put")
	}
}

// P11.1: a full table.
func TestFull(t *testing.T) {
	x := table.New[int]()
	for i := range 32 {
		if n, err := x.Put(i, 0); n != i || err != 0 {
			t.Error(n, err)
		}
	}
	if n, err := x.Put(9, 0); n != 0 || err != api.EMFILE || x.Free() != 0 {
		t.Error(n, err)
	}
	x.Cut(7)
	if n, err := x.Put(9, 8); n != 0 || err != api.EMFILE {
		t.Error(n, err)
	}
	if n, err := x.Put(9, 7); n != 7 || err != 0 {
		t.Error(n, err)
	}
}

// P11.1: All tells the table as it is at each step, may be stopped, and gone through again.
func TestAll(t *testing.T) {
	x := table.New[string]()
	for i, s := range []string{"a", "b", "c", "d"} {
		put(t, x, s, i, i, 0)
	}
	seq := x.All()
	var l []string
	for fd, s := range seq {
		l = append(l, s)
		if fd == 0 {
			x.Cut(1)
			x.Set(2, "C")
			x.Set(9, "z")
		}
	}
	if !slices.Equal(l, []string{"a", "C", "d", "z"}) {
		t.Error(l)
	}
	for fd := range seq {
		if fd == 2 {
			break
		}
	}
	l = nil
	for _, s := range seq {
		l = append(l, s)
	}
	if len(l) != 4 {
		t.Error(l)
	}
}

// P11.1: of a nil table nothing.
func TestNil(t *testing.T) {
	var x *tab
	put(t, x, "a", -1, 0, api.EBADF)
	s, had, err := x.Set(0, "a")
	g, err2 := x.Get(0)
	c, err3 := x.Cut(0)
	if s != "" || had || g != "" || c != "" || err != api.EBADF || err2 != api.EBADF || err3 != api.EBADF {
		t.Error("nil tells something")
	}
	if x.Mark(0, true) != api.EBADF || x.Marked(0) || x.Free() != 0 || x.Copy() != nil || x.Exec() != nil || len(all(x)) != 0 {
		t.Error("nil tells something")
	}
}

// P11.2: what is done to a copy shows in the other one no more; marks are copied.
func TestCopy(t *testing.T) {
	x := table.New[string]()
	put(t, x, "a", 0, 0, 0)
	put(t, x, "b", 0, 1, 0)
	x.Mark(1, true)
	y := x.Copy()
	if !maps.Equal(all(x), all(y)) || !y.Marked(1) || y.Marked(0) {
		t.Error(all(y))
	}
	x.Cut(0)
	x.Mark(1, false)
	if !maps.Equal(all(y), map[int]string{0: "a", 1: "b"}) || !y.Marked(1) {
		t.Error(all(y))
	}
	if l := y.Exec(); !slices.Equal(l, []string{"b"}) {
		t.Error(l)
	}
	if !maps.Equal(all(x), map[int]string{1: "b"}) {
		t.Error(all(x))
	}
}

// P11.3: Free is MaxFds less what All gives; the least free number is what Put answers.
func TestByChance(t *testing.T) {
	r := rand.New(rand.NewSource(20))
	x := table.New[int]()
	has, marked := map[int]int{}, map[int]bool{}
	for step := range 20000 {
		fd := r.Intn(36) - 2
		switch r.Intn(7) {
		case 0, 1:
			n, err := x.Put(step, fd)
			want := fd
			for want >= 0 && want < 32 && has[want] != 0 {
				want++
			}
			if fd < 0 || fd > 31 {
				if n != 0 || err != api.EINVAL {
					t.Fatal(fd, n, err)
				}
			} else if want > 31 {
				if n != 0 || err != api.EMFILE {
					t.Fatal(fd, n, err)
				}
			} else if n != want || err != 0 {
				t.Fatal(fd, n, err)
			} else {
				has[n], marked[n] = step+1, false
				x.Set(n, step+1)
			}
		case 2:
			old, had, err := x.Set(fd, step+1)
			if fd >= 0 && fd < 32 {
				if old != has[fd] || had != (has[fd] != 0) || err != 0 {
					t.Fatal(fd, old, had, err)
				}
				has[fd], marked[fd] = step+1, false
			}
		case 3, 4:
			n, err := x.Cut(fd)
			if n != has[fd] || (err == 0) != (has[fd] != 0) {
				t.Fatal(fd, n, err)
			}
			delete(has, fd)
			delete(marked, fd)
		case 5:
			on := r.Intn(2) == 0
			if err := x.Mark(fd, on); (err == 0) != (has[fd] != 0) {
				t.Fatal(fd, err)
			} else if err == 0 {
				marked[fd] = on
			}
		case 6:
			if r.Intn(20) == 0 {
				var want []int
				for fd := range 32 {
					if marked[fd] {
						want = append(want, has[fd])
						delete(has, fd)
					}
				}
				clear(marked)
				if l := x.Exec(); !slices.Equal(l, want) {
					t.Fatal(l, want)
				}
			}
		}
		if m := maps.Collect(x.All()); !maps.Equal(m, has) || x.Free() != api.MaxFds-len(m) {
			t.Fatal(m, has, x.Free())
		}
		for fd := range 32 {
			if x.Marked(fd) != marked[fd] {
				t.Fatal(fd, marked)
			}
		}
	}
}
