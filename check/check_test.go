package check_test

import (
	"math"
	"slices"
	"strings"
	"testing"

	"warrant/api"
	"warrant/check"
)

func TestP13_2Known(t *testing.T) {
	for _, s := range []string{
		"", "permit;", "deny;", "permit;deny;permit;", `permit scope "read" when claim("age") >= 18 and not subject = owner;`, `permit scope "read", "write";deny scope "read", "write";`, "permit when true;", "deny when false;", `permit when claim("ok");`, `permit when not claim("ok");`,
		"permit when time < 9 and 3 < time;", `permit when time in [1, 2, claim("t")];`, `permit when claim("r") has scope;`, `permit when claim("r") has 7 or claim("r") has (1 = 1);`, "permit when (time = 3) = (1 < 2);", `permit when subject in ["a", "b", owner];`,
		`permit scope "` + times("a", 32) + `", "-", ".", ":", "_", "0";`, `permit when claim("a") = claim("b") and claim("a") < claim("b");`, "permit when resource != client;", "permit when 1 in [2] or true in [false];",
	} {
		isRead(t, s, 0, 0)
	}
	for _, c := range []struct {
		s     string
		no    api.Errno
		place int
	}{
		{"permit when age > 3;", api.ErrName, 12}, {`permit when time = "a";`, api.ErrType, 17}, {`permit when "a" = time;`, api.ErrType, 16}, {"permit when 7;", api.ErrType, 12}, {"permit when time;", api.ErrType, 12}, {"permit when subject;", api.ErrType, 12}, {`permit when "true";`, api.ErrType, 12}, {"permit when x;", api.ErrName, 12},
		{"permit when a > b;", api.ErrName, 16}, {"permit when a < b;", api.ErrName, 12}, {`permit when "a" > time;`, api.ErrType, 16}, {"permit when not time;", api.ErrType, 12}, {"permit when true and 1;", api.ErrType, 17}, {"permit when 1 or x;", api.ErrName, 17}, {"permit when subject has 1;", api.ErrType, 20},
		{`permit when (claim("a")) has x;`, api.ErrName, 29}, {`permit when (not claim("a")) has 1;`, api.ErrType, 29}, {`permit when time in [1, "a"];`, api.ErrType, 17}, {"permit when time in [1, x];", api.ErrName, 24}, {"permit; deny when true = 1;", api.ErrType, 23},
		{`  permit scope "Read";`, api.ErrName, 2}, {`  permit scope "a", "a";`, api.ErrTwice, 2}, {`permit scope "a"; deny scope "b", "a", "b" when x;`, api.ErrTwice, 18}, {"permit; permit scope \"\" when x;", api.ErrName, 8}, {`permit when x;permit scope "";`, api.ErrName, 12}, {`permit when 7;permit scope "a","a";`, api.ErrType, 12}, {`permit scope "a b";`, api.ErrName, 0},
		{`permit when claim("a") = 1 and 2;`, api.ErrType, 27}, {`permit when not claim("a") = 1 or "b" = 2;`, api.ErrType, 38},
	} {
		isRead(t, c.s, c.no, c.place)
	}
	isChecked(t, nil, 0, 0)
	isChecked(t, rules(), 0, 0)
	isChecked(t, rules(api.Rule{}), 0, 0)
	isChecked(t, make([]api.Rule, 16), 0, 0)
	isChecked(t, rules(permit(1, texts(), exprs()...)), 0, 0)
}

// Scopes are names, each byte of them, of each length, at each place.
func TestP13_2ScopeNames(t *testing.T) {
	ask := func(s string, isName bool) {
		t.Helper()
		no := api.ErrName
		if isName {
			no = 0
		}
		isChecked(t, rules(permit(7, texts(s))), no, 7)
		isChecked(t, rules(deny(-7, texts("zz", s), truth(1))), no, -7)
		isChecked(t, rules(permit(3, nil), permit(5, texts(s, "zz")), deny(4, nil)), no, 5)
	}
	for c := range 128 {
		if c < 32 {
			continue // no text can say such a byte
		}
		s := string(rune(c))
		isName := strings.Contains("abcdefghijklmnopqrstuvwxyz0123456789.:_-", s)
		for _, name := range texts(s, "a"+s, s+"a", "a"+s+"b") {
			ask(name, isName)
		}
	}
	for n := range 70 {
		ask(times("a", n), 1 <= n && n <= 32)
		ask(times("-", n), 1 <= n && n <= 32)
	}
	for _, s := range texts("é", "a\u00e9", "\u20ac", "\u007f", "\U0010ffff", "read write", times("a", 5000)) {
		ask(s, false)
	}
	for n := 1; n <= 16; n++ {
		l := strings.Fields("p o n m l k j i h g f e d c b a")[:n]
		isChecked(t, rules(permit(7, l)), 0, 0)
		for place := range n {
			spoiled := slices.Clone(l)
			spoiled[place] = "A"
			isChecked(t, rules(permit(7, spoiled)), api.ErrName, 7)
		}
	}
}

// None is there twice in a rule, wherever it stands; in another rule it may be.
func TestP13_2ScopeTwice(t *testing.T) {
	names := strings.Fields("p o n m l k j i h g f e d c b a")
	for n := 2; n <= 16; n++ {
		for i := range n {
			for j := range n {
				l := slices.Clone(names[:n])
				l[j] = l[i]
				no := api.ErrTwice
				if i == j {
					no = 0
				}
				isChecked(t, rules(deny(9, nil), permit(11, l)), no, 11)
				isChecked(t, rules(permit(9, l), permit(11, l)), no, 9)
			}
		}
	}
	isChecked(t, rules(permit(1, texts("a", "b")), permit(2, texts("a", "b")), deny(3, texts("b", "a"))), 0, 0)
	isChecked(t, rules(permit(1, texts("a", "aa", "aaa", "a.", "a-"))), 0, 0)
	isChecked(t, rules(permit(1, texts("a", "a", "a"))), api.ErrTwice, 1)
}

// The first of several, scope by scope: is it no name, then, is it there?
func TestP13_2ScopeOrder(t *testing.T) {
	for _, c := range []struct {
		l  []string
		no api.Errno
	}{
		{texts("A", "A"), api.ErrName}, {texts("a", "A", "a"), api.ErrName}, {texts("a", "a", "A"), api.ErrTwice}, {texts("", ""), api.ErrName}, {texts("a", "b", "a", "", "b"), api.ErrTwice}, {texts("a", "b", "", "a"), api.ErrName}, {texts("é", "a", "a"), api.ErrName}, {texts("a", "a", "a", "a", " "), api.ErrTwice},
	} {
		isChecked(t, rules(permit(5, c.l)), c.no, 5)
		// Scopes come ahead of the When, whatever its place.
		isChecked(t, rules(permit(5, c.l, at(1, variable("x")))), c.no, 5)
		isChecked(t, rules(permit(5, c.l, at(1, number(1)))), c.no, 5)
		isChecked(t, rules(permit(5, c.l, at(9, eq(at(8, number(1)), at(7, text("a")))))), c.no, 5)
		// Rules come one behind the other, whatever their places.
		isChecked(t, rules(permit(9, nil, at(8, number(1))), permit(5, c.l)), api.ErrType, 8)
		isChecked(t, rules(permit(9, nil, at(8, variable("x"))), permit(5, c.l)), api.ErrName, 8)
		isChecked(t, rules(permit(5, c.l), permit(3, texts("B"), at(2, variable("x")))), c.no, 5)
		isChecked(t, rules(permit(9, nil, at(8, truth(1))), permit(5, c.l), permit(3, texts("c", "c"))), c.no, 5)
	}
}

func TestP13_2When(t *testing.T) {
	for _, kind := range kinds {
		for _, e := range ofKind(kind) {
			no := api.ErrType
			if kind == isTruth || kind == isAny {
				no = 0
			}
			for _, pos := range []int{0, 7, -7, math.MaxInt, math.MinInt} {
				isChecked(t, rules(permit(3, nil, at(pos, e))), no, pos)
				isChecked(t, rules(permit(1, nil), deny(3, texts("a"), at(pos, e)), permit(5, nil)), no, pos)
				if no != 0 {
					isChecked(t, rules(permit(3, nil, at(pos, e)), permit(5, texts("A"))), no, pos)
				} else {
					isChecked(t, rules(permit(3, nil, at(pos, e)), permit(5, texts("A"))), api.ErrName, 5)
				}
			}
		}
	}
	// Kind's error comes ahead of that of the When's own kind.
	isChecked(t, rules(permit(3, nil, at(4, variable("x")))), api.ErrName, 4)
	isChecked(t, rules(permit(3, nil, at(4, not(at(5, not(at(6, number(1)))))))), api.ErrType, 5)
	isChecked(t, rules(permit(3, nil, at(4, lt(at(5, text("a")), at(6, variable("x")))))), api.ErrName, 6)
}

// What Kind tells of an expression, Check tells of a rule that asks it.
func TestP13_2AsKind(t *testing.T) {
	leaves := exprs(at(1, truth(1)), at(2, number(7)), at(3, text("a")), at(4, variable("time")), at(5, variable("owner")), at(6, variable("x")), at(7, claim("c")))
	all := leaves
	for op := 7; op <= 14; op++ {
		for _, a := range leaves {
			for _, b := range leaves {
				all = append(all, at(8, ofOp(op, a, b)), at(9, not(at(8, ofOp(op, b, a)))))
			}
		}
	}
	for _, e := range all {
		kind, fault := refKind(e)
		switch {
		case fault != nil:
			isChecked(t, rules(deny(20, texts("a"), e)), fault.no, fault.place)
		case kind == isTruth || kind == isAny:
			isChecked(t, rules(deny(20, texts("a"), e)), 0, 0)
		default:
			isChecked(t, rules(deny(20, texts("a"), e)), api.ErrType, e.Pos)
		}
	}
}

// A policy that isn't right is told so, whatever else is wrong with it, and
// without a place.
func TestP13_2NotRight(t *testing.T) {
	for _, wrong := range rules(
		permit(5, texts("\n")), permit(5, texts("a", "\xff")), permit(5, make([]string, 17)), permit(5, strings.Fields("a b c d e f g h i j k l m n o p q")), permit(5, nil, truth(1), truth(1)), permit(5, nil, api.Expr{}), permit(5, nil, truth(2)), permit(5, nil, number(maxInt+1)), permit(5, nil, variable("permit")), permit(5, nil, text("\x1f")), permit(5, nil, and(truth(1))), permit(5, nil, within(6, 0, 200, truth(1))),
	) {
		isChecked(t, rules(wrong), api.ErrArg, noPlace)
		for _, other := range rules(permit(1, nil), permit(1, texts("A")), permit(1, texts("a", "a")), permit(1, nil, at(2, variable("x"))), permit(1, nil, at(2, number(1)))) {
			isChecked(t, rules(other, wrong), api.ErrArg, noPlace)
			isChecked(t, rules(wrong, other), api.ErrArg, noPlace)
			isChecked(t, rules(other, other, wrong, other), api.ErrArg, noPlace)
		}
	}
	for _, r := range rules(permit(1, nil), permit(1, texts("A")), permit(1, nil, at(2, variable("x")))) {
		isChecked(t, slices.Repeat(rules(r), 17), api.ErrArg, noPlace)
		isChecked(t, slices.Repeat(rules(r), 1000), api.ErrArg, noPlace)
	}
	isChecked(t, slices.Repeat(rules(permit(1, texts("a"), has(claim("a"), number(1)))), 16), 0, 0)
	isError(t, "what is too deep", check.Check(rules(permit(1, nil, within(7, 0, 60000, variable("x"))))), api.ErrArg, noPlace)
}

// Each of sixteen rules is asked.
func TestP13_2EachRule(t *testing.T) {
	for place := range 16 {
		for _, c := range []struct {
			r     api.Rule
			no    api.Errno
			place int
		}{
			{permit(50, texts("A")), api.ErrName, 50}, {deny(50, texts("a", "a")), api.ErrTwice, 50}, {permit(50, nil, at(60, variable("x"))), api.ErrName, 60}, {deny(50, nil, at(60, text("a"))), api.ErrType, 60}, {permit(50, nil, at(60, not(at(70, has(at(80, text("a")), claim("a")))))), api.ErrType, 70},
		} {
			l := slices.Repeat(rules(permit(1, texts("a"), at(2, claim("c")))), 16)
			l[place] = c.r
			isChecked(t, l, c.no, c.place)
			for behind := place + 1; behind < 16; behind++ {
				l[behind] = permit(3, texts("B", "B"), at(4, variable("y")))
			}
			isChecked(t, l, c.no, c.place)
		}
	}
}
