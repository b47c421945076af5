package check_test

import (
	"errors"
	"fmt"
	"math/rand/v2"
	"slices"
	"strings"
	"testing"

	"warrant/api"
	"warrant/check"
	"warrant/pol"
)

// noPlace is what an error is told by that has no place.
const noPlace = -12345

const maxInt = 9007199254740991

// The kinds, by their numbers.
const (
	isTruth  = 1
	isNumber = 2
	isText   = 3
	isAny    = -1
)

// allErrnos are the errors that this layer, or one of those that it calls, may
// tell, and some more.
var allErrnos = []api.Errno{api.ErrArg, api.ErrLong, api.ErrNil, api.ErrUtf, api.ErrDec, api.ErrOver, api.ErrDeep, api.ErrTwice, api.ErrMany, api.ErrField, api.ErrScope, api.ErrLex, api.ErrParse, api.ErrNest, api.ErrName, api.ErrType, api.ErrRules}

// Each kind of expression, without a place; the ops are told as their numbers.
func truth(n int64) api.Expr         { return api.Expr{Op: 1, N: n} }
func number(n int64) api.Expr        { return api.Expr{Op: 2, N: n} }
func text(s string) api.Expr         { return api.Expr{Op: 3, S: s} }
func variable(s string) api.Expr     { return api.Expr{Op: 4, S: s} }
func claim(s string) api.Expr        { return api.Expr{Op: 5, S: s} }
func not(e api.Expr) api.Expr        { return api.Expr{Op: 6, L: exprs(e)} }
func and(l ...api.Expr) api.Expr     { return api.Expr{Op: 7, L: l} }
func or(l ...api.Expr) api.Expr      { return api.Expr{Op: 8, L: l} }
func eq(l ...api.Expr) api.Expr      { return api.Expr{Op: 9, L: l} }
func ne(l ...api.Expr) api.Expr      { return api.Expr{Op: 10, L: l} }
func lt(l ...api.Expr) api.Expr      { return api.Expr{Op: 11, L: l} }
func le(l ...api.Expr) api.Expr      { return api.Expr{Op: 12, L: l} }
func in(l ...api.Expr) api.Expr      { return api.Expr{Op: 13, L: l} }
func has(l ...api.Expr) api.Expr     { return api.Expr{Op: 14, L: l} }
func exprs(l ...api.Expr) []api.Expr { return l }

// ofOp is an expression of an op and parts.
func ofOp(op int, l ...api.Expr) api.Expr { return api.Expr{Op: op, L: l} }

// at is an expression at a place.
func at(pos int, e api.Expr) api.Expr {
	e.Pos = pos
	return e
}

// permit and deny are rules of scopes and perhaps an expression, at a place.
func permit(pos int, scopes []string, when ...api.Expr) api.Rule {
	return api.Rule{Scopes: scopes, When: when, Pos: pos}
}
func deny(pos int, scopes []string, when ...api.Expr) api.Rule {
	return api.Rule{Deny: true, Scopes: scopes, When: when, Pos: pos}
}

func rules(l ...api.Rule) []api.Rule           { return l }
func texts(l ...string) []string               { return l }
func times(s string, n int) string             { return strings.Repeat(s, n) }
func anyOf[T any](chance *rand.Rand, l ...T) T { return l[chance.IntN(len(l))] }

// show writes out each field of a policy, or of expressions.
func show(of any) string { return fmt.Sprintf("%#v", of) }

// isError tells a test that err must be just want, at a place, or at noPlace; of
// want 0, that there must be none.
func isError(t *testing.T, of string, err error, want api.Errno, place int) {
	t.Helper()
	if want == 0 {
		if err != nil {
			t.Errorf("%.900s: error %+v, and should have none", of, err)
		}
		return
	}
	var no api.Errno
	if !errors.As(err, &no) || no != want {
		t.Errorf("%.900s: error %+v (%d), not %d", of, err, no, want)
	}
	for _, other := range allErrnos {
		if errors.Is(err, other) != (other == want) {
			t.Errorf("%.900s: errors.Is of %+v and %d: %v", of, err, other, other != want)
		}
	}
	var at *api.At
	switch found := errors.As(err, &at); {
	case place == noPlace && found:
		t.Errorf("%.900s: place %d, and should have none", of, at.Pos)
	case place != noPlace && (!found || at.Pos != place):
		t.Errorf("%.900s: %+v, not place %d", of, at, place)
	}
}

// isKind tells a test that e must be well formed, and of that kind.
func isKind(t *testing.T, e api.Expr, want int) {
	t.Helper()
	was := show(e)
	kind, err := check.Kind(e)
	if kind != want || err != nil {
		t.Errorf("Kind(%.900s): %d, %+v, not %d", was, kind, err, want)
	}
	if show(e) != was {
		t.Errorf("Kind changed %.900s", was)
	}
}

// isNoKind tells a test that Kind of e must tell just the error want, at a
// place, or at noPlace.
func isNoKind(t *testing.T, e api.Expr, want api.Errno, place int) {
	t.Helper()
	was := show(e)
	kind, err := check.Kind(e)
	if kind != 0 {
		t.Errorf("Kind(%.900s): %d beside an error", was, kind)
	}
	isError(t, "Kind("+was+")", err, want, place)
	if show(e) != was {
		t.Errorf("Kind changed %.900s", was)
	}
}

// isChecked tells a test what Check of a policy must tell: just want, at a
// place, or at noPlace; of want 0 nothing.
func isChecked(t *testing.T, l []api.Rule, want api.Errno, place int) {
	t.Helper()
	was := show(l)
	isError(t, "Check("+was+")", check.Check(l), want, place)
	if show(l) != was {
		t.Errorf("Check changed %.900s", was)
	}
}

// isRead tells a test that a text must be a policy's, and what Check of that
// must tell.
func isRead(t *testing.T, s string, want api.Errno, place int) {
	t.Helper()
	l, err := pol.Parse(s)
	if err != nil {
		t.Fatalf("Parse(%q): %+v", s, err)
	}
	isError(t, fmt.Sprintf("Check of %q", s), check.Check(l), want, place)
}

// areClaims tells a test which claims a policy must have.
func areClaims(t *testing.T, l []api.Rule, want ...string) {
	t.Helper()
	was := show(l)
	if got := check.Claims(l); !slices.Equal(got, want) {
		t.Errorf("Claims(%.900s): %q, not %q", was, got, want)
	}
	if show(l) != was {
		t.Errorf("Claims changed %.900s", was)
	}
}

// refFault is what is wrong with an expression, and where.
type refFault struct {
	no    api.Errno
	place int
}

// refKind tells what Kind of a right expression must: it gives up at the first
// fault that it comes by.
func refKind(e api.Expr) (kind int, fault *refFault) {
	var kinds []int
	for _, part := range e.L {
		k, f := refKind(part)
		if f != nil {
			return 0, f
		}
		kinds = append(kinds, k)
	}
	ok := true
	for _, k := range kinds {
		switch e.Op {
		case 6, 7, 8:
			ok = ok && (k == isTruth || k == isAny)
		case 9, 10, 13:
			ok = ok && (k == kinds[0] || k == isAny || kinds[0] == isAny)
		case 11, 12:
			ok = ok && (k == isNumber || k == isAny)
		case 14:
			ok = ok && e.L[0].Op == 5
		}
	}
	if !ok {
		return 0, &refFault{api.ErrType, e.Pos}
	}
	kind = map[int]int{2: isNumber, 3: isText, 5: isAny}[e.Op]
	switch {
	case e.Op == 4 && slices.Contains(strings.Fields("subject client owner resource scope"), e.S):
		return isText, nil
	case e.Op == 4 && e.S == "time":
		return isNumber, nil
	case e.Op == 4:
		return 0, &refFault{api.ErrName, e.Pos}
	case kind == 0:
		return isTruth, nil
	}
	return kind, nil
}

// asReference tells a test that Kind of a right expression must be as the
// reference; it tells the error that is told.
func asReference(t *testing.T, e api.Expr) api.Errno {
	t.Helper()
	kind, fault := refKind(e)
	if fault == nil {
		isKind(t, e, kind)
		return 0
	}
	isNoKind(t, e, fault.no, fault.place)
	return fault.no
}

// within is a leaf within n expressions, each of an op as a part of the next.
func within(op, part, n int, leaf api.Expr) api.Expr {
	e := leaf
	for range n {
		parts := exprs(e)
		if op != 6 {
			parts = exprs(claim("a"), claim("b"))
			parts[part] = e
		}
		e = api.Expr{Op: op, L: parts}
	}
	return e
}
