package pipe_test

import (
	"math"
	"math/rand"
	"strings"
	"testing"

	"shyard/api"
	"shyard/pipe"
)

type check struct {
	*testing.T
	p *pipe.Pipe
}

func (c check) write(s string, n int, err api.Errno) {
	c.Helper()
	if m, e := c.p.Write(s); m != n || e != err {
		c.Errorf("Write(%.20q): %d %d, want %d %d", s, m, e, n, err)
	}
}

func (c check) read(n int, s string, err api.Errno) {
	c.Helper()
	if t, e := c.p.Read(n); t != s || e != err {
		c.Errorf("Read(%d): %.20q %d, want %.20q %d", n, t, e, s, err)
	}
}

func (c check) waits(write, want bool) {
	c.Helper()
	if c.p.Waits(write) != want {
		c.Errorf("Waits(%v): %v", write, !want)
	}
}

// P10.1: sizes.
func TestNew(t *testing.T) {
	for size, want := range map[int]api.Errno{1: 0, 64: 0, 65536: 0, 0: api.EINVAL, -1: api.EINVAL, 65537: api.EINVAL, math.MaxInt: api.EINVAL, math.MinInt: api.EINVAL} {
		p, err := pipe.New(size)
		if err != want || (p == nil) != (err != api.OK) {
			t.Error(size, p, err)
		}
		if r, w := p.Ends(); r != 0 || w != 0 || p.Len() != 0 {
			t.Error(size, r, w, p.Len())
		}
	}
}

// P10.1, P10.3: each call's answers and errors, in their order.
func TestCalls(t *testing.T) {
	p, _ := pipe.New(4)
	c := check{t, p}
	c.write("", 0, api.EPIPE)
	c.write("x", 0, api.EPIPE)
	c.read(1, "", 0)
	c.read(-1, "", api.EINVAL)
	c.waits(true, false)
	c.waits(false, false)
	if p.Close(true) != api.EBADF || p.Close(false) != api.EBADF {
		t.Error("there are no ends")
	}
	p.Open(true)
	p.Open(false)
	c.waits(true, false)
	c.waits(false, true)
	c.read(1, "", api.EAGAIN)
	c.read(0, "", 0)
	c.read(-1, "", api.EINVAL)
	c.write("", 0, 0)
	c.write("abcdef", 4, 0)
	c.waits(true, true)
	c.waits(false, false)
	c.write("e", 0, api.EAGAIN)
	c.write("", 0, 0)
	c.read(0, "", 0)
	c.read(math.MinInt, "", api.EINVAL)
	c.read(2, "ab", 0)
	c.write("ef", 2, 0)
	if p.Len() != 4 {
		t.Error(p.Len())
	}
	c.read(math.MaxInt, "cdef", 0)
	c.read(1, "", api.EAGAIN)
	p.Open(true)
	if r, w := p.Ends(); r != 1 || w != 2 {
		t.Error(r, w)
	}
	if p.Close(true) != api.OK {
		t.Error("Close")
	}
	c.read(1, "", api.EAGAIN)
	c.write("gh", 2, 0)
	if p.Close(true) != api.OK || p.Close(true) != api.EBADF {
		t.Error("Close")
	}
	c.waits(false, false)
	c.read(1, "g", 0)
	c.write("ijklm", 3, 0) // who writes needs no end of its own
	c.waits(true, true)
	if p.Close(false) != api.OK || p.Close(false) != api.EBADF {
		t.Error("Close")
	}
	c.waits(true, false)
	c.write("x", 0, api.EPIPE)
	c.write("", 0, api.EPIPE)
	c.read(9, "hijk", 0)
	c.read(9, "", 0)
}

// P10.1: of a nil pipe nothing.
func TestNil(t *testing.T) {
	var p *pipe.Pipe
	c := check{t, p}
	p.Open(true)
	p.Open(false)
	c.write("x", 0, api.EBADF)
	c.read(-1, "", api.EBADF)
	c.waits(true, false)
	c.waits(false, false)
	if r, w := p.Ends(); r != 0 || w != 0 || p.Len() != 0 || p.Close(true) != api.EBADF || p.Close(false) != api.EBADF {
		t.Error("nil tells something")
	}
}

// P10.2, P10.3: what is read, and what is still held, is what was written; never more than the size;
// an error changes nothing.
func TestByChance(t *testing.T) {
	r := rand.New(rand.NewSource(19))
	for range 500 {
		size := 1 + r.Intn(9)
		p, _ := pipe.New(size)
		held, readers, writers := "", 0, 0
		for step := range 300 {
			switch write := r.Intn(2) == 0; r.Intn(8) {
			case 0:
				p.Open(write)
				if write {
					writers++
				} else {
					readers++
				}
			case 1:
				n := &readers
				if write {
					n = &writers
				}
				if err := p.Close(write); (err == api.OK) != (*n > 0) {
					t.Fatal(err, readers, writers)
				}
				*n = max(0, *n-1)
			case 2, 3, 4:
				s := strings.Repeat(string(rune('a'+step%26)), r.Intn(6))
				n, err := p.Write(s)
				switch {
				case readers == 0:
					if n != 0 || err != api.EPIPE {
						t.Fatal(n, err)
					}
				case s != "" && len(held) == size:
					if n != 0 || err != api.EAGAIN {
						t.Fatal(n, err)
					}
				case n != min(len(s), size-len(held)) || err != api.OK:
					t.Fatal(n, err)
				}
				held += s[:n]
			default:
				n := r.Intn(6) - 1
				s, err := p.Read(n)
				switch {
				case n < 0:
					if s != "" || err != api.EINVAL {
						t.Fatal(s, err)
					}
				case n > 0 && held == "" && writers > 0:
					if s != "" || err != api.EAGAIN {
						t.Fatal(s, err)
					}
				case s != held[:min(n, len(held))] || err != api.OK:
					t.Fatal(s, err, held)
				}
				held = held[len(s):]
			}
			a, b := p.Ends()
			if p.Len() != len(held) || len(held) > size || a != readers || b != writers {
				t.Fatal(p.Len(), len(held), a, b)
			}
			if p.Waits(true) != (readers > 0 && len(held) == size) || p.Waits(false) != (writers > 0 && held == "") {
				t.Fatal("Waits")
			}
		}
	}
}
