package fail_test

import (
	"errors"
	"fmt"
	"slices"
	"strings"
	"testing"

	"shale/api"
	"shale/fail"
)

var errElse = errors.New("else")

// numbers are the document's numbers, in their order: the first is 1.
var numbers = []api.Errno{
	api.ErrArg, api.ErrPath, api.ErrNone, api.ErrExists,
	api.ErrDir, api.ErrNotDir, api.ErrFull, api.ErrBusy,
	api.ErrSpace, api.ErrDisk, api.ErrDown, api.ErrSum,
	api.ErrForm, api.ErrHandle, api.ErrSize, api.ErrState,
}

// wrapped wraps e in as many wrappings as asked for.
func wrapped(e error, times int) error {
	for i := range times {
		e = fail.At(fmt.Sprint("op", i), fmt.Sprint("/p", i), e)
	}
	return e
}

// many is an error with a field that can't be compared.
type many struct{ parts []error }

func (m many) Error() string { return "many" }

// 1.1

func TestAtOfNilIsNil(t *testing.T) {
	for _, op := range []string{"", "open"} {
		if e := fail.At(op, "/a", nil); e != nil {
			t.Errorf("At(%q, /a, nil) = %#v", op, e)
		}
	}
	if e := fail.At("a", "/a", fail.At("b", "/b", nil)); e != nil {
		t.Errorf("At of At of nil = %#v", e)
	}
}

func TestAtMakesAFault(t *testing.T) {
	e := fail.At("open", "/a", api.ErrNone)
	f, ok := e.(*fail.Fault)
	if !ok || f == nil {
		t.Fatalf("At answers %#v, no Fault", e)
	}
	if *f != (fail.Fault{Op: "open", Path: "/a", Err: api.ErrNone}) {
		t.Errorf("At answers %#v", *f)
	}
}

func TestAtLeavesWhatItWraps(t *testing.T) {
	inner := fail.At("alloc", "", api.ErrSpace)
	one, two := fail.At("write", "/a", inner), fail.At("cut", "/b", inner)
	if inner.Error() != "alloc : error 09" {
		t.Errorf("inner: %q", inner.Error())
	}
	if one.Error() != "write /a: alloc : error 09" || two.Error() != "cut /b: alloc : error 09" {
		t.Errorf("outer: %q, %q", one.Error(), two.Error())
	}
}

func TestErrorTellsEachWrapping(t *testing.T) {
	var nilFault *fail.Fault
	cases := []struct {
		e    error
		want string
	}{
		{fail.At("open", "/a", api.ErrNone), "open /a: error 03"},
		{fail.At("open", "", api.ErrState), "open : error 16"},
		{fail.At("", "/a", api.ErrArg), " /a: error 01"},
		{fail.At("", "", api.ErrArg), " : error 01"},
		{fail.At("a: b", " /c :", api.ErrArg), "a: b  /c :: error 01"},
		{fail.At("\x00\xff", "\n", api.ErrArg), "\x00\xff \n: error 01"},
		{fail.At("do", "/a", api.Errno(0)), "do /a: error 00"},
		{fail.At("do", "/a", api.Errno(-1)), "do /a: error"},
		{fail.At("do", "/a", errElse), "do /a: else"},
		{fail.At("do", "/a", fail.At("read", "/b", api.ErrDisk)), "do /a: read /b: error 10"},
		{wrapped(api.ErrSum, 3), "op2 /p2: op1 /p1: op0 /p0: error 12"},
		{fail.At("do", "/a", fmt.Errorf("between: %w", fail.At("read", "/b", api.ErrDisk))), "do /a: between: read /b: error 10"},
		{nilFault, ""},
		{fail.At("do", "/a", nilFault), "do /a: "},
		{&fail.Fault{}, " : "},
		{&fail.Fault{Op: "open", Path: "/a"}, "open /a: "},
		{fail.At("do", "/b", &fail.Fault{Op: "open", Path: "/a"}), "do /b: open /a: "},
	}
	for _, c := range cases {
		if got := c.e.Error(); got != c.want {
			t.Errorf("Error = %q, want %q", got, c.want)
		}
	}
}

func TestUnwrapAnswersWhatIsWrapped(t *testing.T) {
	inner := fail.At("alloc", "", api.ErrSpace)
	for _, e := range []error{api.ErrSpace, errElse, inner} {
		if got := errors.Unwrap(fail.At("write", "/a", e)); got != e {
			t.Errorf("Unwrap = %#v, want %#v", got, e)
		}
	}
	var nilFault *fail.Fault
	if got := nilFault.Unwrap(); got != nil {
		t.Errorf("Unwrap of a nil Fault = %#v", got)
	}
	if got := (&fail.Fault{Op: "open", Path: "/a"}).Unwrap(); got != nil {
		t.Errorf("Unwrap of a Fault without Err = %#v", got)
	}
}

// 1.2

func TestCode(t *testing.T) {
	var nilFault *fail.Fault
	cases := []struct {
		e    error
		want int
	}{
		{nil, 0},
		{fail.At("open", "/a", nil), 0},
		{fail.At("open", "/a", api.ErrNone), 3}, // the chapter's example
		{api.ErrNone, 3},
		{api.Errno(0), 0},
		{api.Errno(-7), -7},
		{api.Errno(1 << 30), 1 << 30},
		{fmt.Errorf("between: %w", api.ErrFull), 7},
		{fail.At("do", "/a", fmt.Errorf("between: %w", fail.At("read", "/b", api.ErrDisk))), 10},
		{errors.Join(errElse, api.ErrBusy, api.ErrArg), 8},
		{errElse, -1},
		{errors.New("error 03"), -1},
		{many{}, -1},
		{fail.At("do", "/a", errElse), -1},
		{wrapped(errElse, 4), -1},
		{nilFault, -1},
		{fail.At("do", "/a", nilFault), -1},
		{&fail.Fault{}, -1},
		{fail.At("do", "/a", &fail.Fault{Op: "open"}), -1},
	}
	for _, c := range cases {
		if got := fail.Code(c.e); got != c.want {
			t.Errorf("Code(%v) = %d, want %d", c.e, got, c.want)
		}
	}
}

func TestIs(t *testing.T) {
	var nilFault *fail.Fault
	cases := []struct {
		e    error
		n    api.Errno
		want bool
	}{
		{nil, 0, false},
		{nil, api.ErrArg, false},
		{api.Errno(0), 0, true},
		{api.ErrNone, api.ErrNone, true},
		{api.ErrNone, api.ErrExists, false},
		{fail.At("open", "/a", api.ErrNone), api.ErrNone, true},
		{fail.At("open", "/a", api.ErrNone), api.ErrArg, false},
		{fail.At("open", "/a", api.ErrNone), 0, false},
		{fail.At("do", "/a", fmt.Errorf("between: %w", fail.At("read", "/b", api.ErrDisk))), api.ErrDisk, true},
		{errors.Join(api.ErrBusy, api.ErrArg), api.ErrArg, true},
		{errElse, 0, false},
		{errElse, -1, false},
		{many{}, api.ErrArg, false},
		{wrapped(errElse, 4), -1, false},
		{nilFault, 0, false},
		{&fail.Fault{}, 0, false},
		{&fail.Fault{}, -1, false},
	}
	for _, c := range cases {
		if got := fail.Is(c.e, c.n); got != c.want {
			t.Errorf("Is(%v, %d) = %v", c.e, int(c.n), got)
		}
	}
}

func TestTrail(t *testing.T) {
	var nilFault *fail.Fault
	cases := []struct {
		e    error
		want []string
	}{
		{nil, nil},
		{api.ErrNone, nil},
		{errElse, nil},
		{fmt.Errorf("between: %w", api.ErrNone), nil},
		{fail.At("open", "/a", api.ErrNone), []string{"open"}},
		{fail.At("", "", api.ErrNone), []string{""}},
		{wrapped(api.ErrNone, 3), []string{"op2", "op1", "op0"}},
		{wrapped(errElse, 2), []string{"op1", "op0"}},
		{fail.At("same", "/a", fail.At("same", "/a", api.ErrNone)), []string{"same", "same"}},
		{fmt.Errorf("around: %w", fail.At("do", "/a", fmt.Errorf("between: %w", fail.At("read", "/b", errElse)))), []string{"do", "read"}},
		{nilFault, nil},
		{fail.At("do", "/a", nilFault), []string{"do"}},
		{&fail.Fault{Op: "open"}, []string{"open"}},
		{fail.At("do", "/a", &fail.Fault{Op: "open"}), []string{"do", "open"}},
	}
	for _, c := range cases {
		if got := fail.Trail(c.e); !slices.Equal(got, c.want) {
			t.Errorf("Trail(%v) = %q, want %q", c.e, got, c.want)
		}
	}
}

func TestTrailIsNewMemory(t *testing.T) {
	e := wrapped(api.ErrNone, 3)
	first := fail.Trail(e)
	first = append(first[:0], "x", "y", "z")
	if got := fail.Trail(e); !slices.Equal(got, []string{"op2", "op1", "op0"}) {
		t.Errorf("Trail = %q behind a change to %q", got, first)
	}
}

// 1.3

func TestWrappingChangesNoNumber(t *testing.T) {
	for i, n := range numbers {
		for times := range 6 {
			e := wrapped(n, times)
			if got := fail.Code(e); got != i+1 {
				t.Errorf("Code of %v = %d, want %d", e, got, i+1)
			}
			for _, other := range numbers {
				if got := fail.Is(e, other); got != (n == other) {
					t.Errorf("Is(%v, %d) = %v", e, int(other), got)
				}
			}
		}
	}
}

func TestWhatWasWrappedIsFound(t *testing.T) {
	inner := fail.At("alloc", "", api.ErrSpace)
	for _, e := range []error{api.ErrSpace, errElse, inner} {
		for times := range 6 {
			if !errors.Is(wrapped(e, times), e) {
				t.Errorf("%v isn't found in %d wrappings", e, times)
			}
		}
	}
	var f *fail.Fault
	if e := fmt.Errorf("around: %w", inner); !errors.As(e, &f) || f != inner {
		t.Errorf("the Fault in %v isn't found", e)
	}
}

// A chain that is too long for copying each wrapping's text into the next one's.
func TestLongChain(t *testing.T) {
	const times = 1 << 20
	var e error = api.ErrForm
	for range times {
		e = fail.At("a", "/b", e)
	}
	if got := fail.Code(e); got != 13 {
		t.Errorf("Code = %d", got)
	}
	if !fail.Is(e, api.ErrForm) || fail.Is(e, api.ErrSum) {
		t.Errorf("Is finds another number")
	}
	if got := len(fail.Trail(e)); got != times {
		t.Errorf("Trail has %d", got)
	}
	if e.Error() != strings.Repeat("a /b: ", times)+"error 13" {
		t.Errorf("Error tells another text")
	}
}
