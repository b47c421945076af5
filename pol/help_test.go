package pol_test

import (
	"errors"
	"fmt"
	"math/rand/v2"
	"strings"
	"testing"
	"unsafe"

	"warrant/api"
	"warrant/pol"
)

// noPlace is what an error is told by that has no place.
const noPlace = -1

const maxInt = 9007199254740991

// allErrnos are the errors that this layer, or one of those that it calls, may
// tell, and some more.
var allErrnos = []api.Errno{api.ErrArg, api.ErrLong, api.ErrUtf, api.ErrDec, api.ErrOver, api.ErrDeep, api.ErrMany, api.ErrScope, api.ErrLex, api.ErrParse, api.ErrNest, api.ErrName, api.ErrType, api.ErrRules}

// Each kind of expression, without a place; the ops are told as their numbers.
func truth(n int64) api.Expr         { return api.Expr{Op: 1, N: n} }
func number(n int64) api.Expr        { return api.Expr{Op: 2, N: n} }
func text(s string) api.Expr         { return api.Expr{Op: 3, S: s} }
func variable(s string) api.Expr     { return api.Expr{Op: 4, S: s} }
func claim(s string) api.Expr        { return api.Expr{Op: 5, S: s} }
func not(e api.Expr) api.Expr        { return api.Expr{Op: 6, L: exprs(e)} }
func and(l ...api.Expr) api.Expr     { return api.Expr{Op: 7, L: l} }
func or(l ...api.Expr) api.Expr      { return api.Expr{Op: 8, L: l} }
func eq(l ...api.Expr) api.Expr      { return api.Expr{Op: 9, L: l} }
func ne(l ...api.Expr) api.Expr      { return api.Expr{Op: 10, L: l} }
func lt(l ...api.Expr) api.Expr      { return api.Expr{Op: 11, L: l} }
func le(l ...api.Expr) api.Expr      { return api.Expr{Op: 12, L: l} }
func in(l ...api.Expr) api.Expr      { return api.Expr{Op: 13, L: l} }
func has(l ...api.Expr) api.Expr     { return api.Expr{Op: 14, L: l} }
func exprs(l ...api.Expr) []api.Expr { return l }

// at is an expression at a place.
func at(pos int, e api.Expr) api.Expr {
	e.Pos = pos
	return e
}

// permit and deny are rules of scopes and perhaps an expression, without a
// place.
func permit(scopes []string, when ...api.Expr) api.Rule { return api.Rule{Scopes: scopes, When: when} }
func deny(scopes []string, when ...api.Expr) api.Rule {
	return api.Rule{Deny: true, Scopes: scopes, When: when}
}

// ruleAt is a rule at a place.
func ruleAt(pos int, r api.Rule) api.Rule {
	r.Pos = pos
	return r
}

func rules(l ...api.Rule) []api.Rule           { return l }
func when(e api.Expr) []api.Rule               { return rules(permit(nil, e)) }
func texts(l ...string) []string               { return l }
func times(s string, n int) string             { return strings.Repeat(s, n) }
func anyOf[T any](chance *rand.Rand, l ...T) T { return l[chance.IntN(len(l))] }

// show writes out each field of rules.
func show(l []api.Rule) string {
	var s strings.Builder
	for _, r := range l {
		fmt.Fprintf(&s, "{%v %q at %d", r.Deny, r.Scopes, r.Pos)
		for _, e := range r.When {
			s.WriteString(" ")
			showExpr(&s, e)
		}
		s.WriteString("}")
	}
	return s.String()
}

// showExpr writes out each field of an expression.
func showExpr(s *strings.Builder, e api.Expr) {
	fmt.Fprintf(s, "(%d %q %d at %d", e.Op, e.S, e.N, e.Pos)
	for _, part := range e.L {
		showExpr(s, part)
	}
	s.WriteString(")")
}

// isSame tells whether policies are the same, by what is written out of them.
func isSame(a, b []api.Rule) bool { return show(a) == show(b) }

// unplaced are the same rules, but for their places.
func unplaced(l []api.Rule) []api.Rule {
	var out []api.Rule
	for _, r := range l {
		out = append(out, api.Rule{Deny: r.Deny, Scopes: append(texts(), r.Scopes...), When: unplacedExprs(r.When)})
	}
	return out
}

// unplacedExprs are the same expressions, but for their places.
func unplacedExprs(l []api.Expr) []api.Expr {
	var out []api.Expr
	for _, e := range l {
		out = append(out, api.Expr{Op: e.Op, S: e.S, N: e.N, L: unplacedExprs(e.L)})
	}
	return out
}

// isError tells a test that err must be just want, at a place, or at noPlace.
func isError(t *testing.T, of string, err error, want api.Errno, place int) {
	t.Helper()
	var no api.Errno
	if !errors.As(err, &no) || no != want {
		t.Errorf("%s: error %v (%d), not %d", of, err, no, want)
	}
	for _, other := range allErrnos {
		if errors.Is(err, other) != (other == want) {
			t.Errorf("%s: errors.Is of %v and %d: %v", of, err, other, other != want)
		}
	}
	var at *api.At
	switch found := errors.As(err, &at); {
	case place == noPlace && found:
		t.Errorf("%s: place %d, and should have none", of, at.Pos)
	case place != noPlace && (!found || at.Pos != place):
		t.Errorf("%s: %+v, not place %d", of, at, place)
	}
}

// isParsed tells a test that Parse of s must be want, places and all.
func isParsed(t *testing.T, s string, want ...api.Rule) {
	t.Helper()
	if l, err := pol.Parse(s); err != nil || !isSame(l, want) {
		t.Errorf("Parse(%.300q): %.600s, %+v, not %.600s", s, show(l), err, show(want))
	}
}

// isRead tells a test that Parse of s must be want, but for places.
func isRead(t *testing.T, s string, want ...api.Rule) {
	t.Helper()
	if l, err := pol.Parse(s); err != nil || !isSame(unplaced(l), unplaced(want)) {
		t.Errorf("Parse(%.300q): %.600s, %+v, not %.600s", s, show(unplaced(l)), err, show(want))
	}
}

// isWrong tells a test that Parse of s must tell just the error want, at a
// place, or at noPlace.
func isWrong(t *testing.T, s string, want api.Errno, place int) {
	t.Helper()
	l, err := pol.Parse(s)
	if len(l) != 0 {
		t.Errorf("Parse(%.300q): %.300s beside an error", s, show(l))
	}
	isError(t, fmt.Sprintf("Parse(%.300q)", s), err, want, place)
}

// asReference tells a test that Parse of s must be as the reference.
func asReference(t *testing.T, s string) {
	t.Helper()
	if l, no, place := refParse(s); no != 0 {
		isWrong(t, s, no, place)
	} else {
		isParsed(t, s, l...)
	}
}

// isPrinted tells a test that l must be right, and what Print of it must be.
func isPrinted(t *testing.T, l []api.Rule, want string) {
	t.Helper()
	if !pol.Right(l) {
		t.Errorf("%.300s isn't right", show(l))
	}
	if s, err := pol.Print(l); err != nil || s != want {
		t.Errorf("Print(%.300s): %.300q, %v, not %.300q", show(l), s, err, want)
	}
}

// isNotRight tells a test that l mustn't be right, and has no text.
func isNotRight(t *testing.T, l []api.Rule) {
	t.Helper()
	if pol.Right(l) {
		t.Errorf("%.300s is right", show(l))
	}
	s, err := pol.Print(l)
	if s != "" {
		t.Errorf("Print(%.300s): %.300q beside an error", show(l), s)
	}
	isError(t, "Print", err, api.ErrArg, noPlace)
}

// isWhole tells a test that each of l must be right as an expression, alone and
// as a part; isNone that none of them may be.
func isWhole(t *testing.T, l ...api.Expr) {
	t.Helper()
	for _, e := range l {
		isPrinted(t, when(e), "permit when "+refText(e, 1)+";")
		for _, whole := range wholes(e) {
			isPrinted(t, when(whole), "permit when "+refText(whole, 1)+";")
		}
	}
}

func isNone(t *testing.T, l ...api.Expr) {
	t.Helper()
	for _, e := range l {
		isNotRight(t, when(e))
		for _, whole := range wholes(e) {
			isNotRight(t, when(whole))
		}
	}
}

// wholes are expressions of each op with e as each of their parts.
func wholes(e api.Expr) []api.Expr {
	a := variable("a")
	l := exprs(not(e), in(e, a), in(a, e), in(a, e, a), in(a, a, e), not(not(e)))
	for _, op := range []int{7, 8, 9, 10, 11, 12, 14} {
		l = append(l, api.Expr{Op: op, L: exprs(e, a)}, api.Expr{Op: op, L: exprs(a, e)})
	}
	return l
}

// isOutside tells a test that the bytes of s must not lie in memory.
func isOutside(t *testing.T, s, memory string) {
	t.Helper()
	begin := uintptr(unsafe.Pointer(unsafe.StringData(memory)))
	place := uintptr(unsafe.Pointer(unsafe.StringData(s)))
	if s != "" && begin <= place && place < begin+uintptr(len(memory)) {
		t.Errorf("%q lies within %.80q", s, memory)
	}
}
