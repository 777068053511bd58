package vars_test

import (
	"math"
	"math/rand"
	"reflect"
	"slices"
	"strconv"
	"strings"
	"testing"

	"shyard/api"
	"shyard/vars"
)

func all(v *vars.Vars) []api.Var { return slices.Collect(v.All()) }

func is(t *testing.T, got, want api.Errno) {
	t.Helper()
	if got != want {
		t.Errorf("%d, want %d", got, want)
	}
}

func get(t *testing.T, v *vars.Vars, name, value string, set bool) {
	t.Helper()
	if s, ok := v.Get(name); s != value || ok != set {
		t.Errorf("Get(%s): %q %v", name, s, ok)
	}
}

// P14.1: variables and marks.
func TestVariables(t *testing.T) {
	v := vars.New()
	get(t, v, "a", "", false)
	is(t, v.Set("a", "1"), 0)
	get(t, v, "a", "1", true)
	is(t, v.Mark("a", true, false), 0)
	is(t, v.Mark("b", true, false), 0)
	is(t, v.Mark("c", false, false), 0)
	if l := v.Environ(); !slices.Equal(l, []string{"a=1"}) {
		t.Error(l)
	}
	get(t, v, "b", "", false)
	is(t, v.Mark("a", false, true), 0)
	is(t, v.Set("a", "2"), api.ErrRead)
	is(t, v.Set("a", strings.Repeat("x", api.MaxText+1)), api.ErrRead)
	is(t, v.Unset("a"), api.ErrRead)
	is(t, v.Mark("a", false, false), 0)
	is(t, v.Set("_Z9", ""), 0)
	get(t, v, "_Z9", "", true)
	is(t, v.Set("B", "x=y\n"), 0)
	is(t, v.Mark("B", true, false), 0)
	is(t, v.Mark("r", false, true), 0)
	is(t, v.Set("r", "1"), api.ErrRead)
	is(t, v.Unset("b"), 0)
	is(t, v.Unset("b"), 0)
	want := []api.Var{{Name: "B", Value: "x=y\n", Export: true}, {Name: "_Z9"}, {Name: "a", Value: "1", Export: true, Readonly: true}, {Name: "r", Readonly: true, Unset: true}}
	if l := all(v); !reflect.DeepEqual(l, want) {
		t.Errorf("%+v", l)
	}
	if l := v.Environ(); !slices.Equal(l, []string{"B=x=y\n", "a=1"}) {
		t.Error(l)
	}
	is(t, v.Unset("B"), 0)
	is(t, v.Set("B", "new"), 0)
	if l := all(v); l[0] != (api.Var{Name: "B", Value: "new"}) {
		t.Errorf("%+v", l)
	}
	for _, name := range []string{"", "1", "a b", "a-", "é", "a\x00"} {
		is(t, v.Set(name, strings.Repeat("x", api.MaxText+1)), api.EINVAL)
		is(t, v.Unset(name), api.EINVAL)
		is(t, v.Mark(name, true, true), api.EINVAL)
		is(t, v.Mark(name, false, false), api.EINVAL)
		get(t, v, name, "", false)
	}
	is(t, v.Set("x", strings.Repeat("x", api.MaxText+1)), api.ErrFields)
	is(t, v.Set("x", strings.Repeat("x", api.MaxText)), 0)
}

// P14.1: at most 64.
func TestMany(t *testing.T) {
	v := vars.New()
	for i := range api.MaxVars - 1 {
		is(t, v.Set("v"+strconv.Itoa(i), ""), 0)
	}
	is(t, v.Mark("m", true, false), 0)
	is(t, v.Set("x", ""), api.ErrVars)
	is(t, v.Set("x", strings.Repeat("x", api.MaxText+1)), api.ErrFields)
	is(t, v.Mark("x", true, false), api.ErrVars)
	is(t, v.Mark("x", false, true), api.ErrVars)
	is(t, v.Mark("x", false, false), 0)
	is(t, v.Set("m", "1"), 0)
	is(t, v.Set("v0", "1"), 0)
	is(t, v.Mark("v0", true, true), 0)
	is(t, v.Unset("x"), 0)
	is(t, v.Unset("v1"), 0)
	is(t, v.Mark("x", true, true), 0)
	is(t, v.Set("v1", ""), api.ErrVars)
	if len(all(v)) != api.MaxVars {
		t.Error(len(all(v)))
	}
}

// P14.1: positional parameters.
func TestArgs(t *testing.T) {
	v := vars.New()
	if len(v.Args()) != 0 {
		t.Error(v.Args())
	}
	is(t, v.Shift(0), 0)
	is(t, v.Shift(1), api.EINVAL)
	l := []string{"x", "", "z"}
	is(t, v.SetArgs(l), 0)
	l[0] = "changed"
	got := v.Args()
	got[1] = "changed"
	if got := v.Args(); !slices.Equal(got, []string{"x", "", "z"}) {
		t.Error(got)
	}
	is(t, v.Shift(-1), api.EINVAL)
	is(t, v.Shift(4), api.EINVAL)
	is(t, v.Shift(math.MinInt), api.EINVAL)
	is(t, v.Shift(math.MaxInt), api.EINVAL)
	is(t, v.Shift(2), 0)
	if got := v.Args(); !slices.Equal(got, []string{"z"}) {
		t.Error(got)
	}
	is(t, v.Shift(1), 0)
	is(t, v.SetArgs(make([]string, api.MaxArgs)), 0)
	is(t, v.SetArgs(make([]string, api.MaxArgs+1)), api.ErrFields)
	if len(v.Args()) != api.MaxArgs {
		t.Error(len(v.Args()))
	}
	is(t, v.SetArgs(nil), 0)
	if len(v.Args()) != 0 {
		t.Error(v.Args())
	}
}

// P14.1: All may be stopped, gone through again, and changed meanwhile.
func TestAll(t *testing.T) {
	v := vars.New()
	for _, name := range []string{"c", "a", "b"} {
		v.Set(name, "")
	}
	seq := v.All()
	for x := range seq {
		if x.Name != "a" {
			t.Error(x)
		}
		break
	}
	for x := range seq {
		v.Unset(x.Name)
	}
	if len(slices.Collect(seq)) != 0 {
		t.Error(all(v))
	}
}

// P14.1: of nil nothing.
func TestNil(t *testing.T) {
	var v *vars.Vars
	get(t, v, "a", "", false)
	is(t, v.Set("a", ""), api.EINVAL)
	is(t, v.Unset("a"), api.EINVAL)
	is(t, v.Mark("a", true, true), api.EINVAL)
	is(t, v.SetArgs(nil), api.EINVAL)
	is(t, v.Shift(0), api.EINVAL)
	if len(all(v)) != 0 || v.Environ() != nil || v.Args() != nil || v.Copy() != nil {
		t.Error("nil tells something")
	}
}

// P14.2: what is done to a copy shows in the other no more; a call that answers an error changes nothing.
func TestCopyAndErrors(t *testing.T) {
	r := rand.New(rand.NewSource(23))
	v := vars.New()
	for range 20000 {
		other := v.Copy()
		was, args := all(v), v.Args()
		if !reflect.DeepEqual(all(other), was) || !slices.Equal(other.Args(), args) {
			t.Fatal(all(other), was)
		}
		name := []string{"a", "b", "c", "1", "", "v" + strconv.Itoa(r.Intn(90))}[r.Intn(6)]
		var err api.Errno
		switch r.Intn(6) {
		case 0, 1:
			err = v.Set(name, strings.Repeat("x", r.Intn(3)*r.Intn(40000)))
		case 2:
			err = v.Unset(name)
		case 3:
			err = v.Mark(name, r.Intn(2) == 0, r.Intn(20) == 0)
		case 4:
			err = v.SetArgs(make([]string, r.Intn(230)))
		case 5:
			err = v.Shift(r.Intn(9) - 1)
		}
		if err != 0 && (!reflect.DeepEqual(all(v), was) || !slices.Equal(v.Args(), args)) {
			t.Fatal(err)
		}
		if !reflect.DeepEqual(all(other), was) || !slices.Equal(other.Args(), args) {
			t.Fatal("the copy has changed")
		}
		if r.Intn(300) == 0 {
			v = vars.New()
		}
	}
}
