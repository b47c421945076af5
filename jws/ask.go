package jws

import (
	"warrant/api"
	"warrant/scope"
)

// check asks for one thing, and tells what is wrong, or nil.
type check func() error

// refusal is an error with words for what was found.
type refusal struct {
	no    error
	found string
}

// Error tells the words.
func (r *refusal) Error() string { return "jws: " + r.found }

// Unwrap tells the error itself.
func (r *refusal) Unwrap() error { return r.no }

// firstOf asks check by check, and tells what the first says that finds
// something wrong; those behind it aren't asked.
func firstOf(checks ...check) error {
	for _, ask := range checks {
		if err := ask(); err != nil {
			return err
		}
	}
	return nil
}

// unless tells the check that wraps an error where something isn't so. What
// other layers say of it isn't wrapped: it may have a place.
func unless(no api.Errno, found string, isSo func() bool) check {
	return func() error {
		if isSo() {
			return nil
		}
		return &refusal{no, found}
	}
}

// mustBeRing tells the check that is Check itself.
func mustBeRing(ring []api.Key) check {
	return func() error { return Check(ring) }
}

// mustBeName tells the check that a kind is a name.
func mustBeName(kind string) check {
	return unless(api.ErrArg, "a kind that is no name", func() bool { return scope.Name(kind) })
}

// mustBeShort tells the check that a text isn't too long.
func mustBeShort(text string) check {
	return unless(api.ErrLong, "too long a text", func() bool { return len(text) <= api.MaxBody })
}
