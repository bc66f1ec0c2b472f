// Package fail is layer 1: see shared/doc/01-fail.md.
package fail

import (
	"errors"
	"strings"

	"shale/api"
)

// Fault is an error, wrapped.
type Fault struct {
	Op, Path string
	Err      error
}

// Error answers its text. It goes down in a loop, as a chain may be longer
// than calls can be nested.
func (f *Fault) Error() string {
	var text strings.Builder
	for f != nil {
		text.WriteString(f.Op + " " + f.Path + ": ")
		inner, wrapped := f.Err.(*Fault)
		if !wrapped && f.Err != nil {
			text.WriteString(f.Err.Error())
		}
		f = inner
	}
	return text.String()
}

// Unwrap answers what is wrapped.
func (f *Fault) Unwrap() error {
	if f == nil {
		return nil
	}
	return f.Err
}

// At wraps an error.
func At(op, path string, e error) error {
	if e == nil {
		return nil
	}
	return &Fault{Op: op, Path: path, Err: e}
}

// Code answers an error's number.
func Code(e error) int {
	if e == nil {
		return 0
	}
	var n api.Errno
	if errors.As(e, &n) {
		return int(n)
	}
	return -1
}

// Is tells whether an error is one of a number.
func Is(e error, n api.Errno) bool {
	return errors.Is(e, n)
}

// Trail answers what was done.
func Trail(e error) []string {
	var done []string
	var f *Fault
	// A nil Fault can be found as well, and tells of nothing that was done.
	for errors.As(e, &f) && f != nil {
		done = append(done, f.Op)
		e = f.Err
	}
	return done
}
