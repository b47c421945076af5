package eval_test

import (
	"errors"
	"fmt"
	"math"
	"math/rand/v2"
	"slices"
	"strings"
	"testing"
	"unsafe"

	"warrant/api"
	"warrant/eval"
	"warrant/pol"
)

// noPlace is what an error is told by that has no place.
const noPlace = -12345

const maxInt = 9007199254740991

// What a policy says, by its numbers.
const (
	permits = 1
	denies  = 2
	needs   = 3
)

// allErrnos are the errors that this layer, or one of those that it calls, may
// tell, and some more.
var allErrnos = []api.Errno{api.ErrArg, api.ErrLong, api.ErrNil, api.ErrUtf, api.ErrDec, api.ErrOver, api.ErrJson, api.ErrDeep, api.ErrTwice, api.ErrMany, api.ErrField, api.ErrScope, api.ErrClaim, api.ErrLex, api.ErrParse, api.ErrNest, api.ErrName, api.ErrType, api.ErrRules}

// Each kind of expression, without a place; the ops are told as their numbers.
func truth(n int64) api.Expr         { return api.Expr{Op: 1, N: n} }
func number(n int64) api.Expr        { return api.Expr{Op: 2, N: n} }
func text(s string) api.Expr         { return api.Expr{Op: 3, S: s} }
func variable(s string) api.Expr     { return api.Expr{Op: 4, S: s} }
func claim(s string) api.Expr        { return api.Expr{Op: 5, S: s} }
func not(e api.Expr) api.Expr        { return api.Expr{Op: 6, L: exprs(e)} }
func and(l ...api.Expr) api.Expr     { return api.Expr{Op: 7, L: l} }
func or(l ...api.Expr) api.Expr      { return api.Expr{Op: 8, L: l} }
func eq(l ...api.Expr) api.Expr      { return api.Expr{Op: 9, L: l} }
func ne(l ...api.Expr) api.Expr      { return api.Expr{Op: 10, L: l} }
func lt(l ...api.Expr) api.Expr      { return api.Expr{Op: 11, L: l} }
func le(l ...api.Expr) api.Expr      { return api.Expr{Op: 12, L: l} }
func in(l ...api.Expr) api.Expr      { return api.Expr{Op: 13, L: l} }
func has(l ...api.Expr) api.Expr     { return api.Expr{Op: 14, L: l} }
func exprs(l ...api.Expr) []api.Expr { return l }

// ofOp is an expression of an op and parts.
func ofOp(op int, l ...api.Expr) api.Expr { return api.Expr{Op: op, L: l} }

// at is an expression at a place.
func at(pos int, e api.Expr) api.Expr {
	e.Pos = pos
	return e
}

// permit and deny are rules of scopes and perhaps an expression.
func permit(scopes []string, when ...api.Expr) api.Rule {
	return api.Rule{Scopes: scopes, When: when}
}
func deny(scopes []string, when ...api.Expr) api.Rule {
	return api.Rule{Deny: true, Scopes: scopes, When: when}
}

// ruleAt is a rule at a place.
func ruleAt(pos int, r api.Rule) api.Rule {
	r.Pos = pos
	return r
}

// The kinds of JSON values, as their numbers.
func vNull() api.Json                 { return api.Json{} }
func vTruth(n int64) api.Json         { return api.Json{Kind: 1, N: n} }
func vInt(n int64) api.Json           { return api.Json{Kind: 2, N: n} }
func vText(s string) api.Json         { return api.Json{Kind: 3, S: s} }
func vList(l ...api.Json) api.Json    { return api.Json{Kind: 4, L: l} }
func vObj() api.Json                  { return api.Json{Kind: 5} }
func values(l ...api.Json) []api.Json { return l }

// with is an object with one member more, behind all others.
func with(v api.Json, name string, val api.Json) api.Json {
	return api.Json{Kind: 5, K: append(slices.Clone(v.K), name), L: append(slices.Clone(v.L), val)}
}

// telling is an ask with claims of names and values, one behind the other.
func telling(claims ...any) api.Ask {
	a := api.Ask{Subject: "sub", Client: "cli", Owner: "own", Resource: "res", Scope: "sco", Time: 1000, Claims: vObj()}
	for i := 0; i < len(claims); i += 2 {
		a.Claims = with(a.Claims, claims[i].(string), claims[i+1].(api.Json))
	}
	return a
}

// of is an ask for another scope.
func of(name string, a api.Ask) api.Ask {
	a.Scope = name
	return a
}

func rules(l ...api.Rule) []api.Rule           { return l }
func texts(l ...string) []string               { return l }
func times(s string, n int) string             { return strings.Repeat(s, n) }
func anyOf[T any](chance *rand.Rand, l ...T) T { return l[chance.IntN(len(l))] }

// show writes out each field of what is handed in, or told.
func show(of ...any) string { return fmt.Sprintf("%#v", of) }

// read is the policy of a text.
func read(t *testing.T, s string) []api.Rule {
	t.Helper()
	l, err := pol.Parse(s)
	if err != nil {
		t.Fatalf("Parse(%q): %+v", s, err)
	}
	return l
}

// isError tells a test that err must be just want, at a place, or at noPlace.
func isError(t *testing.T, of string, err error, want api.Errno, place int) {
	t.Helper()
	var no api.Errno
	if !errors.As(err, &no) || no != want {
		t.Errorf("%.900s: error %+v (%d), not %d", of, err, no, want)
	}
	for _, other := range allErrnos {
		if errors.Is(err, other) != (other == want) {
			t.Errorf("%.900s: errors.Is of %+v and %d: %v", of, err, other, other != want)
		}
	}
	var at *api.At
	switch found := errors.As(err, &at); {
	case place == noPlace && found:
		t.Errorf("%.900s: place %d, and should have none", of, at.Pos)
	case place != noPlace && (!found || at.Pos != place):
		t.Errorf("%.900s: %+v, not place %d", of, at, place)
	}
}

// isWorth tells a test what the worth of an expression must be.
func isWorth(t *testing.T, e api.Expr, a api.Ask, want api.Json) {
	t.Helper()
	was := show(e, a)
	v, isThere, err := eval.Worth(e, a)
	if show(v) != show(want) || !isThere || err != nil {
		t.Errorf("Worth of %.900s: %#v, %v, %+v, not %#v", was, v, isThere, err, want)
	}
	if show(e, a) != was {
		t.Errorf("Worth changed %.900s", was)
	}
}

// isNone tells a test that the worth of an expression must be none.
func isNone(t *testing.T, e api.Expr, a api.Ask) {
	t.Helper()
	was := show(e, a)
	v, isThere, err := eval.Worth(e, a)
	if show(v) != show(api.Json{}) || isThere || err != nil {
		t.Errorf("Worth of %.900s: %#v, %v, %+v, not none", was, v, isThere, err)
	}
	if show(e, a) != was {
		t.Errorf("Worth changed %.900s", was)
	}
}

// isTruth tells a test which truth an expression must be: 't', 'f', or 'n' for
// none.
func isTruth(t *testing.T, e api.Expr, a api.Ask, want byte) {
	t.Helper()
	switch want {
	case 't':
		isWorth(t, e, a, vTruth(1))
	case 'f':
		isWorth(t, e, a, vTruth(0))
	case 'n':
		isNone(t, e, a)
	default:
		t.Fatalf("%q is no truth", want)
	}
}

// isNoWorth tells a test that Worth must tell just an error, at a place, or at
// noPlace.
func isNoWorth(t *testing.T, e api.Expr, a api.Ask, want api.Errno, place int) {
	t.Helper()
	v, isThere, err := eval.Worth(e, a)
	if show(v) != show(api.Json{}) || isThere {
		t.Errorf("Worth of %.900s: %#v, %v beside an error", show(e), v, isThere)
	}
	isError(t, "Worth of "+show(e), err, want, place)
}

// isSaid tells a test what a policy must say, and want to know.
func isSaid(t *testing.T, l []api.Rule, a api.Ask, want int, wanted ...string) {
	t.Helper()
	was := show(l, a)
	verdict, names, err := eval.Decide(l, a)
	if verdict != want || !slices.Equal(names, wanted) || err != nil {
		t.Errorf("Decide(%.1500s): %d, %q, %+v, not %d, %q", was, verdict, names, err, want, wanted)
	}
	if show(l, a) != was {
		t.Errorf("Decide changed %.900s", was)
	}
}

// areScopes tells a test which scopes must be permitted, and what is wanted.
func areScopes(t *testing.T, l []api.Rule, a api.Ask, scopes, permitted, wanted []string) {
	t.Helper()
	was := show(l, a, scopes)
	got, names, err := eval.Scopes(l, a, scopes)
	if !slices.Equal(got, permitted) || !slices.Equal(names, wanted) || err != nil {
		t.Errorf("Scopes(%.1500s): %q, %q, %+v, not %q, %q", was, got, names, err, permitted, wanted)
	}
	if show(l, a, scopes) != was {
		t.Errorf("Scopes changed %.900s", was)
	}
}

// isNotChecked tells a test that Decide and Scopes must tell just an error, at a
// place, or at noPlace.
func isNotChecked(t *testing.T, l []api.Rule, a api.Ask, want api.Errno, place int) {
	t.Helper()
	was := show(l, a)
	verdict, wanted, err := eval.Decide(l, a)
	if verdict != 0 || len(wanted) != 0 {
		t.Errorf("Decide(%.900s): %d, %q beside an error", was, verdict, wanted)
	}
	isError(t, "Decide("+was+")", err, want, place)
	for _, scopes := range [][]string{nil, {"a"}, {"b", "a", "sco"}} {
		permitted, wanted, err := eval.Scopes(l, a, scopes)
		if len(permitted) != 0 || len(wanted) != 0 {
			t.Errorf("Scopes(%.900s): %q, %q beside an error", was, permitted, wanted)
		}
		isError(t, "Scopes("+was+")", err, want, place)
	}
	if show(l, a) != was {
		t.Errorf("%.900s was changed", was)
	}
}

// liesIn tells whether the bytes of s are some of those of whole.
func liesIn(s, whole string) bool {
	place := uintptr(unsafe.Pointer(unsafe.StringData(s)))
	begin := uintptr(unsafe.Pointer(unsafe.StringData(whole)))
	return s != "" && begin <= place && place < begin+uintptr(len(whole))
}

// within is a leaf within n expressions, each of an op as a part of the next,
// with another leaf as the other part.
func within(op, part, n int, leaf, other api.Expr) api.Expr {
	e := leaf
	for range n {
		parts := exprs(e)
		if op != 6 {
			parts = exprs(other, other)
			parts[part] = e
		}
		e = ofOp(op, parts...)
	}
	return e
}

// someWorths are values that may be a worth: truths, numbers and texts, some of
// them none that JSON has.
func someWorths() []api.Json {
	return values(vTruth(0), vTruth(1), vInt(0), vInt(1), vInt(-1), vInt(2), vInt(1000), vInt(maxInt), vInt(-maxInt), vInt(math.MaxInt64), vInt(math.MinInt64), vText(""), vText("0"), vText("1"), vText("true"), vText("a"), vText("A"), vText("aa"), vText("é"), vText("e\u0301"), vText("\xff"), vText("\x00"), vTruth(2), vTruth(-1), vTruth(math.MinInt64))
}

// noWorths are values that are none.
func noWorths() []api.Json {
	return values(vNull(), vList(), vList(vTruth(1)), vList(vInt(1), vText("a")), vObj(), with(vObj(), "c", vTruth(1)), api.Json{Kind: 6}, api.Json{Kind: 6, N: 1, S: "a"}, api.Json{Kind: -1, N: 1}, api.Json{Kind: math.MaxInt, S: "a"}, api.Json{Kind: math.MinInt, N: 1}, api.Json{Kind: 1<<32 + 1, N: 1}, api.Json{S: "a", N: 1}, api.Json{Kind: 4, N: 1, S: "a"}, api.Json{Kind: 5, N: 1, S: "a"})
}
