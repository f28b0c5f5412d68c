// Package fault is layer 1: errors with the places that they went through: see shared/doc/01-fault.md.
package fault

import (
	"errors"
	"strconv"

	"twain/api"
)

// wrapped is a place and the error in it. It is used as a value, not by a pointer, so that chains wrapped alike are equal: what Wrap answers hangs on no address.
type wrapped struct {
	place string
	at    int
	inner error
}

// Error: the place, then the text of what is in it.
func (w wrapped) Error() string {
	return w.place + "@" + strconv.Itoa(w.at) + ": " + w.inner.Error()
}

// Unwrap: the error without this place.
func (w wrapped) Unwrap() error { return w.inner }

// outermost asks by errors.As, as Code does, so that another's wrapping between two places hides neither the places nor the number.
func outermost(err error) (wrapped, bool) {
	var w wrapped
	ok := errors.As(err, &w)
	return w, ok
}

// Wrap: nil of nil; err itself, if it has MaxWrap places; else err in one more place.
func Wrap(err error, place string, at int) error {
	if err == nil {
		return nil
	}
	if names, _ := Places(err); len(names) >= api.MaxWrap {
		return err
	}
	return wrapped{place: place, at: at, inner: err}
}

// Code: the number in it; OK of nil, ErrNone if none is.
func Code(err error) api.Errno {
	if err == nil {
		return api.OK
	}
	var e api.Errno
	if errors.As(err, &e) {
		return e
	}
	return api.ErrNone
}

// Is: is e in it?
func Is(err error, e api.Errno) bool { return errors.Is(err, e) }

// Places: the names of its places and their ints, the outermost first.
func Places(err error) ([]string, []int) {
	var names []string
	var ats []int
	for w, ok := outermost(err); ok; w, ok = outermost(w.inner) {
		names = append(names, w.place)
		ats = append(ats, w.at)
	}
	return names, ats
}

// First: the first that isn't nil, or nil.
func First(errs ...error) error {
	for _, err := range errs {
		if err != nil {
			return err
		}
	}
	return nil
}

// Text: the places, the outermost first, then the error's own text; empty of nil.
func Text(err error) string {
	if err == nil {
		return ""
	}
	return err.Error()
}
