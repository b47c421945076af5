package eval_test

import (
	"math"
	"slices"
	"testing"

	"warrant/api"
	"warrant/eval"
)

func TestP14_1Constants(t *testing.T) {
	for _, a := range []api.Ask{{}, telling(), telling("", vTruth(0), "a", vText("b"))} {
		isWorth(t, truth(0), a, vTruth(0))
		isWorth(t, truth(1), a, vTruth(1))
		for _, n := range []int64{0, 1, -1, 7, -40, 1 << 31, 1 << 32, maxInt, -maxInt} {
			isWorth(t, number(n), a, vInt(n))
		}
		for _, s := range texts("", "a", "b", "true", "0", "subject", "é", "\u20ac", "\U0010ffff", `a "b" \c`, " ", times("x", 5000)) {
			isWorth(t, text(s), a, vText(s))
		}
	}
}

// Each variable tells its own part of what is asked, whatever that is.
func TestP14_1Variables(t *testing.T) {
	for _, s := range texts("", "a", "subject", "A b", "é", "\xff\x00\n", times("x", 5000)) {
		for _, c := range []struct {
			name string
			a    api.Ask
		}{
			{"subject", api.Ask{Subject: s}}, {"client", api.Ask{Client: s}}, {"owner", api.Ask{Owner: s}}, {"resource", api.Ask{Resource: s}}, {"scope", api.Ask{Scope: s}},
		} {
			isWorth(t, variable(c.name), c.a, vText(s))
			isWorth(t, at(-9, variable(c.name)), c.a, vText(s))
			for _, other := range texts("subject", "client", "owner", "resource", "scope") {
				if other != c.name {
					isWorth(t, variable(other), c.a, vText(""))
				}
			}
			isWorth(t, variable("time"), c.a, vInt(0))
		}
	}
	for _, n := range []int64{0, 1, -1, 1 << 40, maxInt, maxInt + 1, -maxInt, math.MaxInt64, math.MinInt64} {
		isWorth(t, variable("time"), api.Ask{Time: n}, vInt(n))
		isWorth(t, variable("subject"), api.Ask{Time: n}, vText(""))
	}
	a := telling("subject", vText("no"), "time", vInt(7))
	for name, want := range map[string]api.Json{"subject": vText("sub"), "client": vText("cli"), "owner": vText("own"), "resource": vText("res"), "scope": vText("sco"), "time": vInt(1000)} {
		isWorth(t, variable(name), a, want)
	}
}

func TestP14_1Claims(t *testing.T) {
	for _, name := range texts("", "a", "age", "time", "not a name", "é", times("n", 100)) {
		for _, v := range someWorths() {
			isWorth(t, claim(name), telling(name, v), v)
			isWorth(t, claim(name), telling("b", vNull(), name, v, "c", vTruth(1)), v)
		}
		for _, v := range noWorths() {
			isNone(t, claim(name), telling(name, v))
			isNone(t, claim(name), telling("b", vTruth(1), name, v, "c", vTruth(1)))
		}
		isNone(t, claim(name), telling())
		isNone(t, claim(name), telling("b", vTruth(1), "ag", vInt(1), "agee", vInt(2), "A", vInt(3), "e\u0301", vInt(4)))
		isNone(t, claim(name), api.Ask{})
	}
	// Of several of a name the first; it may be none.
	isWorth(t, claim("a"), telling("a", vInt(1), "a", vInt(2)), vInt(1))
	isWorth(t, claim("a"), telling("b", vInt(0), "a", vText("x"), "a", vNull(), "a", vInt(2)), vText("x"))
	isNone(t, claim("a"), telling("a", vNull(), "a", vInt(2)))
	isNone(t, claim("a"), telling("a", vList(vInt(2)), "a", vInt(2)))
	// What stands within another member is no member.
	isNone(t, claim("a"), telling("b", with(vObj(), "a", vInt(1))))
}

// Claims that are no object have no members, whatever stands in them.
func TestP14_1ClaimsOfNoObject(t *testing.T) {
	for _, kind := range []int{0, 1, 2, 3, 4, 6, -1, 1<<32 + 5, math.MaxInt, math.MinInt} {
		a := telling("a", vTruth(1), "b", vList(vTruth(1)))
		a.Claims.Kind = kind
		isNone(t, claim("a"), a)
		isNone(t, not(claim("a")), a)
		isNone(t, eq(claim("a"), truth(1)), a)
		isNone(t, has(claim("b"), truth(1)), a)
		isSaid(t, rules(permit(nil, claim("a"))), a, needs, "a")
		isSaid(t, rules(permit(nil, has(claim("b"), claim("a")))), a, needs, "a", "b")
	}
	// An object that lacks values, or names.
	a := telling("a", vTruth(1), "b", vTruth(1))
	a.Claims.L = a.Claims.L[:1]
	isWorth(t, claim("a"), a, vTruth(1))
	isNone(t, claim("b"), a)
	isSaid(t, rules(permit(nil, and(claim("a"), claim("b")))), a, needs, "b")
	a = telling("a", vTruth(1), "b", vTruth(1))
	a.Claims.K = a.Claims.K[:1]
	isWorth(t, claim("a"), a, vTruth(1))
	isNone(t, claim("b"), a)
	a.Claims.K, a.Claims.L = nil, nil
	isNone(t, claim("a"), a)
	// One whose names don't rise.
	a = telling("b", vInt(1), "a", vInt(2), "c", vInt(3))
	isWorth(t, claim("a"), a, vInt(2))
	isWorth(t, claim("b"), a, vInt(1))
	isWorth(t, claim("c"), a, vInt(3))
}

// What is told is the caller's, and lies in nothing that was handed in.
func TestP14_1NoMemoryShared(t *testing.T) {
	long := times("ab", 40)
	a := telling("a", vText(long))
	a.Subject = long
	for _, e := range exprs(text(long), variable("subject"), claim("a")) {
		v, _, err := eval.Worth(e, a)
		if v.S != long || err != nil {
			t.Fatalf("%#v, %v", v, err)
		}
		if liesIn(v.S, long) {
			t.Errorf("what Worth tells of %#v lies within what was handed in", e)
		}
	}
}

// Faults are those of check, at their places.
func TestP14_1Errors(t *testing.T) {
	a := telling("a", vTruth(1))
	x := at(7, variable("x"))
	isNoWorth(t, x, a, api.ErrName, 7)
	isNoWorth(t, at(3, not(x)), a, api.ErrName, 7)
	isNoWorth(t, at(3, not(at(5, number(1)))), a, api.ErrType, 3)
	isNoWorth(t, at(3, not(at(5, text("true")))), a, api.ErrType, 3)
	isNoWorth(t, at(-3, eq(text("a"), number(1))), a, api.ErrType, -3)
	isNoWorth(t, at(3, lt(text("a"), claim("a"))), a, api.ErrType, 3)
	isNoWorth(t, at(3, in(text("a"), claim("a"), number(7))), a, api.ErrType, 3)
	isNoWorth(t, at(3, has(variable("subject"), text("a"))), a, api.ErrType, 3)
	// Even where another part settles it.
	isNoWorth(t, or(truth(1), x), a, api.ErrName, 7)
	isNoWorth(t, and(truth(0), at(4, not(number(1)))), a, api.ErrType, 4)
	isNoWorth(t, or(claim("a"), at(4, eq(truth(1), number(1)))), a, api.ErrType, 4)
	for _, e := range exprs(
		api.Expr{}, ofOp(-1), ofOp(15), ofOp(15, truth(1), truth(1)), truth(2), truth(-1), number(maxInt+1), number(-maxInt-1), text("\xff"), text("\n"), claim("\x00"), variable(""), variable("permit"), variable("A"),
		ofOp(6), ofOp(6, truth(1), truth(1)), and(truth(1)), and(truth(1), truth(1), truth(1)), or(), eq(claim("a")), ne(), lt(number(1)), le(number(1), number(1), number(1)), in(claim("a")), in(), has(claim("a")), has(), ofOp(1, truth(1)), ofOp(5, claim("a")), api.Expr{Op: 1, N: 1, S: "a"}, api.Expr{Op: 7, N: 1, L: exprs(truth(1), truth(1))},
		within(6, 0, 200, truth(1), truth(1)), within(7, 1, 5000, truth(1), truth(1)),
	) {
		isNoWorth(t, at(7, e), a, api.ErrArg, noPlace)
		isNoWorth(t, or(truth(1), at(7, e)), a, api.ErrArg, noPlace)
		isNoWorth(t, and(at(7, e), truth(0)), api.Ask{}, api.ErrArg, noPlace)
	}
	itself := and(truth(1), truth(1))
	itself.L[0] = api.Expr{Op: 7, L: itself.L}
	_, isThere, err := eval.Worth(itself, a)
	if isThere {
		t.Error("what stands within itself has a worth")
	}
	isError(t, "Worth of what stands within itself", err, api.ErrArg, noPlace)
}

// What was told before counts for nothing.
func TestP14_1NothingKept(t *testing.T) {
	e := eq(claim("a"), variable("subject"))
	a, b := telling("a", vText("sub")), telling("a", vText("other"))
	for range 3 {
		isTruth(t, e, a, 't')
		isTruth(t, e, b, 'f')
		isTruth(t, e, telling(), 'n')
	}
	names := slices.Clone(a.Claims.K)
	isSaid(t, rules(permit(nil, e)), a, permits)
	if !slices.Equal(names, a.Claims.K) {
		t.Errorf("%q, not %q", a.Claims.K, names)
	}
}
