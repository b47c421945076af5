package check_test

import (
	"math"
	"strings"
	"testing"

	"warrant/api"
	"warrant/check"
)

var allVariables = strings.Fields("subject client owner resource scope time")

// ofKind are expressions of a kind, well formed and without a place.
func ofKind(kind int) []api.Expr {
	switch kind {
	case isTruth:
		return exprs(truth(0), truth(1), not(truth(1)), and(truth(0), truth(1)), or(truth(0), truth(0)), eq(number(1), number(2)), ne(text("a"), text("b")), lt(number(1), number(2)), le(number(1), variable("time")), in(text("a"), text("b")), has(claim("a"), number(1)))
	case isNumber:
		return exprs(number(0), number(1), number(-1), number(maxInt), number(-maxInt), variable("time"))
	case isText:
		return exprs(text(""), text("a"), text("time"), text("true"), text("7"), variable("subject"), variable("client"), variable("owner"), variable("resource"), variable("scope"))
	}
	return exprs(claim(""), claim("a"), claim("time"), claim("not a name"))
}

var kinds = []int{isTruth, isNumber, isText, isAny}

func TestP13_1Leaves(t *testing.T) {
	for _, kind := range kinds {
		for _, e := range ofKind(kind) {
			isKind(t, e, kind)
			isKind(t, at(7, e), kind)
			isKind(t, at(-7, e), kind)
			isKind(t, at(math.MaxInt, e), kind)
		}
	}
}

// Variables are just those six; what is near one is none.
func TestP13_1Variables(t *testing.T) {
	for _, name := range allVariables {
		kind := isText
		if name == "time" {
			kind = isNumber
		}
		isKind(t, variable(name), kind)
		for i := range len(name) + 1 {
			isNoKind(t, at(i, variable(name[:i]+"_"+name[i:])), api.ErrName, i)
			isNoKind(t, at(i, variable(name[:i]+"s"+name[i:])), api.ErrName, i)
			if i < len(name) {
				isNoKind(t, at(i, variable(name[:i]+name[i+1:])), api.ErrName, i)
				isNoKind(t, at(i, variable(name[:i]+"x"+name[i+1:])), api.ErrName, i)
			}
		}
		isNoKind(t, at(3, variable(name+name)), api.ErrName, 3)
	}
	for _, name := range strings.Fields("a x _ age now sub user claims claim_ permits texts number null nil end truth client_id jti exp scopes resources timeout owners " + times("z", 32)) {
		isNoKind(t, at(5, variable(name)), api.ErrName, 5)
		isNoKind(t, at(5, not(at(9, variable(name)))), api.ErrName, 9)
	}
}

// What each op asks of two parts, by their kinds: a line each for the first
// part's kind, a sign each for the second's.
var asked = map[string][]int{
	"1001" + "0000" + "0000" + "1001": {7, 8},
	"1001" + "0101" + "0011" + "1111": {9, 10, 13},
	"0000" + "0101" + "0000" + "0101": {11, 12},
	"0000" + "0000" + "0000" + "1111": {14},
}

func TestP13_1TwoParts(t *testing.T) {
	tried := 0
	for table, ops := range asked {
		for _, op := range ops {
			for i, first := range kinds {
				for j, second := range kinds {
					for _, a := range ofKind(first) {
						for _, b := range ofKind(second) {
							tried++
							e := at(40, ofOp(op, at(50, a), at(30, b)))
							if table[4*i+j] == '1' {
								isKind(t, e, isTruth)
							} else {
								isNoKind(t, e, api.ErrType, 40)
							}
						}
					}
				}
			}
		}
	}
	if tried != 8*31*31 {
		t.Errorf("%d were tried", tried)
	}
}

func TestP13_1Not(t *testing.T) {
	for _, kind := range kinds {
		for _, a := range ofKind(kind) {
			e := at(40, not(at(50, a)))
			if kind == isTruth || kind == isAny {
				isKind(t, e, isTruth)
				isKind(t, not(not(e)), isTruth)
			} else {
				isNoKind(t, e, api.ErrType, 40)
				isNoKind(t, at(60, not(at(70, not(e)))), api.ErrType, 40)
			}
		}
	}
}

// Each item goes with what is looked for, not with the other items.
func TestP13_1In(t *testing.T) {
	leaf := map[int]api.Expr{isTruth: truth(1), isNumber: number(7), isText: text("a"), isAny: claim("c")}
	for _, first := range kinds {
		for _, other := range kinds {
			goes := first == isAny || other == isAny || first == other
			for n := 1; n < 6; n++ {
				for place := 1; place <= n; place++ {
					l := exprs(at(1, leaf[first]))
					for range n {
						l = append(l, at(2, leaf[first]))
					}
					l[place] = at(3, leaf[other])
					if goes {
						isKind(t, in(l...), isTruth)
					} else {
						isNoKind(t, at(9, in(l...)), api.ErrType, 9)
					}
				}
			}
		}
	}
	isKind(t, in(claim("a"), number(1), text("a"), truth(0), variable("time"), claim("b")), isTruth)
	isKind(t, in(text("a"), claim("b"), claim("b"), text("c"), claim("d"), variable("owner")), isTruth)
	isNoKind(t, at(9, in(text("a"), claim("b"), number(1))), api.ErrType, 9)
	isNoKind(t, at(9, in(number(1), claim("b"), text("a"), number(2))), api.ErrType, 9)
	many := exprs(variable("time"))
	for range 5000 {
		many = append(many, number(7))
	}
	isKind(t, in(many...), isTruth)
	many[5000] = text("")
	isNoKind(t, at(9, in(many...)), api.ErrType, 9)
}

// The first part of PHas is a claim itself; the second may be of any kind, but
// well formed.
func TestP13_1Has(t *testing.T) {
	for _, kind := range kinds {
		for _, e := range ofKind(kind) {
			isKind(t, has(claim("a"), e), isTruth)
			if kind != isAny {
				isNoKind(t, at(4, has(at(5, e), at(6, claim("a")))), api.ErrType, 4)
			}
		}
	}
	isKind(t, has(claim("a"), claim("a")), isTruth)
	isKind(t, has(claim("a"), has(claim("b"), text("c"))), isTruth)
	isNoKind(t, at(4, has(not(claim("a")), text("b"))), api.ErrType, 4)
	isNoKind(t, at(4, has(has(claim("a"), text("b")), text("c"))), api.ErrType, 4)
	isNoKind(t, at(4, has(claim("a"), at(6, variable("x")))), api.ErrName, 6)
	isNoKind(t, at(4, has(at(5, variable("x")), claim("a"))), api.ErrName, 5)
	isNoKind(t, at(4, has(claim("a"), at(6, not(at(7, text("b")))))), api.ErrType, 6)
}

// The first of several faults: parts ahead of what they are parts of, in the
// order of the parts, not in that of the places.
func TestP13_1First(t *testing.T) {
	x := func(pos int) api.Expr { return at(pos, variable("x")) }
	wrong := func(pos int) api.Expr { return at(pos, not(at(pos+500, number(1)))) }
	for _, places := range [][2]int{{1, 2}, {2, 1}, {-1, 0}, {0, -1}, {math.MaxInt, math.MinInt}, {math.MinInt, math.MaxInt}, {3, 3}} {
		a, b := places[0], places[1]
		for op := 7; op <= 14; op++ {
			isNoKind(t, at(100, ofOp(op, x(a), x(b))), api.ErrName, a)
			isNoKind(t, at(100, ofOp(op, x(a), at(b, text("s")))), api.ErrName, a)
			isNoKind(t, at(100, ofOp(op, at(a, text("s")), x(b))), api.ErrName, b)
			isNoKind(t, at(100, ofOp(op, at(a, not(truth(1))), x(b))), api.ErrName, b)
			isNoKind(t, at(100, ofOp(op, at(a, not(at(50, number(1)))), x(b))), api.ErrType, a)
			isNoKind(t, at(100, ofOp(op, x(a), at(b, not(at(50, number(1)))))), api.ErrName, a)
			isNoKind(t, at(100, ofOp(op, at(a, lt(text("s"), x(50))), x(b))), api.ErrName, 50)
			isNoKind(t, at(100, ofOp(op, at(a, lt(text("s"), number(1))), at(b, lt(text("s"), x(50))))), api.ErrType, a)
			isNoKind(t, at(100, not(at(200, ofOp(op, at(a, claim("c")), wrong(10))))), api.ErrType, 10)
			isNoKind(t, at(100, ofOp(op, at(200, ofOp(op, claim("a"), claim("b"))), wrong(10))), api.ErrType, 10)
		}
	}
	isNoKind(t, at(1, in(at(2, text("a")), at(3, number(1)), at(4, text("b")), x(5))), api.ErrName, 5)
	isNoKind(t, at(1, in(at(2, text("a")), wrong(3), wrong(4), x(5))), api.ErrType, 3)
	isNoKind(t, at(1, in(x(2), x(3), x(4))), api.ErrName, 2)
	isNoKind(t, at(1, in(claim("a"), claim("b"), claim("c"), x(4), wrong(5))), api.ErrName, 4)
	// What is wrong far within comes ahead of all that it is a part of.
	deep := x(77)
	for i := range 90 {
		deep = at(i, not(at(1000+i, lt(text("s"), deep))))
	}
	isNoKind(t, deep, api.ErrName, 77)
}

// Expressions that aren't right are told so, whatever else is wrong with them,
// and without a place.
func TestP13_1NotRight(t *testing.T) {
	x := variable("x")
	for _, e := range exprs(
		api.Expr{}, ofOp(0), ofOp(15), ofOp(-1), ofOp(16, x), ofOp(1<<32+1),
		truth(2), truth(-1), number(maxInt+1), number(-maxInt-1), number(math.MinInt64), variable(""), variable("A"), variable("permit"), variable("claim"), variable("true"), variable("a b"), variable(times("a", 33)),
		text("\n"), text("\xff"), claim("\x00"), claim("\xc3"),
		api.Expr{Op: 1, S: "a"}, api.Expr{Op: 3, N: 1}, api.Expr{Op: 4, S: "time", N: 1}, api.Expr{Op: 5, S: "a", N: 1}, api.Expr{Op: 6, S: "a", L: exprs(truth(1))}, api.Expr{Op: 7, N: 1, L: exprs(truth(1), truth(1))},
		ofOp(1, truth(1)), ofOp(2, number(1)), ofOp(3, text("a")), api.Expr{Op: 4, S: "time", L: exprs(number(1))}, ofOp(5, claim("a")),
		ofOp(6), ofOp(6, truth(1), truth(1)), and(), and(truth(1)), and(truth(1), truth(1), truth(1)), or(truth(1)), eq(), eq(x), ne(number(1)), lt(number(1), number(1), number(1)), le(number(1)), in(), in(text("a")), has(), has(claim("a")), has(claim("a"), text("a"), text("b")),
	) {
		isNoKind(t, at(7, e), api.ErrArg, noPlace)
		isNoKind(t, at(7, not(e)), api.ErrArg, noPlace)
		for op := 7; op <= 14; op++ {
			isNoKind(t, ofOp(op, x, e), api.ErrArg, noPlace)
			isNoKind(t, ofOp(op, number(1), not(e)), api.ErrArg, noPlace)
			isNoKind(t, ofOp(op, e, claim("a")), api.ErrArg, noPlace)
		}
		isChecked(t, rules(permit(1, nil, at(7, e))), api.ErrArg, noPlace)
	}
}

// An expression that stands within itself isn't right.
func TestP13_1WithinItself(t *testing.T) {
	for op := 6; op <= 14; op++ {
		e := within(op, 0, 1, claim("a"))
		for i := range e.L {
			e.L[i] = at(7, api.Expr{Op: op, L: e.L})
		}
		kind, err := check.Kind(e)
		if kind != 0 {
			t.Errorf("%d beside an error", kind)
		}
		isError(t, "Kind of what stands within itself", err, api.ErrArg, noPlace)
		isError(t, "Check of what stands within itself", check.Check(rules(permit(1, nil, e))), api.ErrArg, noPlace)
	}
}

// There may be 200 within one another; then the innermost is asked, too.
func TestP13_1Within(t *testing.T) {
	for op := 6; op <= 14; op++ {
		for part := range 2 {
			if op == 14 && part == 0 || op == 6 && part == 1 {
				continue // the first part of PHas is always a claim, PNot has but one
			}
			for _, n := range []int{1, 2, 12, 13, 100, 198, 199} {
				asReference(t, within(op, part, n, claim("a")))
				isNoKind(t, at(5, within(op, part, n, at(7, variable("x")))), api.ErrName, 7)
				isNoKind(t, within(op, part, n-1, at(7, lt(at(8, text("a")), number(1)))), api.ErrType, 7)
			}
			for _, n := range []int{200, 201, 1000, 60000} {
				kind, err := check.Kind(within(op, part, n, variable("x")))
				if kind != 0 {
					t.Errorf("%d beside an error", kind)
				}
				isError(t, "what is too deep", err, api.ErrArg, noPlace)
			}
		}
	}
	isKind(t, within(6, 0, 199, truth(1)), isTruth)
	isKind(t, within(7, 0, 199, claim("c")), isTruth)
	isKind(t, within(7, 1, 199, truth(0)), isTruth)
	isKind(t, within(14, 1, 199, number(1)), isTruth)
}

// All expressions of a few leaves, and such as parts of others.
func TestP13_1Small(t *testing.T) {
	leaves := exprs(truth(1), number(7), text("a"), variable("time"), variable("x"), claim("c"))
	told := map[api.Errno]int{}
	pos := 0
	place := func(e api.Expr) api.Expr {
		pos = (pos*31 + 7) % 1009
		return at(pos, e)
	}
	small := append(exprs(), leaves...)
	for _, a := range leaves {
		small = append(small, not(place(a)))
		for _, b := range leaves {
			for op := 7; op <= 14; op++ {
				small = append(small, ofOp(op, place(a), place(b)))
			}
			for _, c := range leaves {
				small = append(small, in(place(a), place(b), place(c)))
			}
		}
	}
	few := append(exprs(), leaves...)
	for i := 0; i < len(small); i += 37 {
		few = append(few, small[i])
	}
	for _, a := range small {
		told[asReference(t, place(a))]++
		told[asReference(t, place(not(place(a))))]++
		for _, b := range few {
			for op := 7; op <= 14; op++ {
				told[asReference(t, place(ofOp(op, place(a), place(b))))]++
				told[asReference(t, place(ofOp(op, place(b), place(a))))]++
			}
		}
	}
	if told[0] < 5000 || told[api.ErrName] < 5000 || told[api.ErrType] < 5000 || len(told) != 3 {
		t.Errorf("too few of some: %v", told)
	}
}
