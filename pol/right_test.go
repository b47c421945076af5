package pol_test

import (
	"math"
	"math/rand/v2"
	"strings"
	"testing"

	"warrant/api"
	"warrant/pol"
)

var noOps = []int{0, 15, 16, 20, -1, -6, 256 + 1, 1<<32 + 1, math.MaxInt, math.MinInt}

func TestP12_2RightKnown(t *testing.T) {
	isPrinted(t, nil, "")
	isPrinted(t, rules(), "")
	isPrinted(t, rules(api.Rule{}), "permit;")
	isPrinted(t, rules(permit(texts(), exprs()...)), "permit;")
	isPrinted(t, rules(permit(texts("x"), api.Expr{Op: 4, S: "a", L: exprs()})), `permit scope "x" when a;`)
	isNotRight(t, when(api.Expr{}))
	isWhole(t, truth(0), truth(1), number(7), text(""), text("a"), variable("a"), claim(""), claim("a"), not(truth(1)), and(truth(1), truth(0)), in(text("a"), text("a")))
}

// Each op with each count of parts.
func TestP12_2RightParts(t *testing.T) {
	counts := map[int][]int{1: {0}, 2: {0}, 3: {0}, 4: {0}, 5: {0}, 6: {1}, 7: {2}, 8: {2}, 9: {2}, 10: {2}, 11: {2}, 12: {2}, 13: {2, 3, 4, 5, 100}, 14: {2}}
	for op := range 20 {
		for _, n := range []int{0, 1, 2, 3, 4, 5, 100} {
			e := api.Expr{Op: op}
			if op == 4 {
				e.S = "a"
			}
			for range n {
				e.L = append(e.L, variable("x"))
			}
			fits := false
			for _, count := range counts[op] {
				fits = fits || count == n
			}
			if fits != refRight(when(e)) {
				t.Errorf("the reference: %v of %v", !fits, e)
			}
			if fits {
				isWhole(t, e)
			} else {
				isNone(t, e)
			}
		}
	}
	for _, op := range noOps {
		isNone(t, api.Expr{Op: op}, api.Expr{Op: op, L: exprs(truth(1))}, api.Expr{Op: op, L: exprs(truth(1), truth(1))}, api.Expr{Op: op, S: "a"}, api.Expr{Op: op, N: 1})
	}
}

// Each op with each of what it says, and of what it doesn't.
func TestP12_2RightFields(t *testing.T) {
	a := variable("a")
	isWhole(t, truth(0), truth(1), number(0), number(1), number(-1), number(maxInt), number(-maxInt), text("a"), claim("a"))
	isNone(t, truth(2), truth(-1), truth(3), truth(256), truth(257), truth(1<<32), truth(1<<32+1), truth(math.MaxInt64), truth(math.MinInt64))
	isNone(t, number(maxInt+1), number(-maxInt-1), number(maxInt+2), number(1<<62), number(math.MaxInt64), number(math.MinInt64), number(math.MinInt64+1))
	for _, e := range exprs(truth(0), truth(1), number(0), number(7), not(a), and(a, a), or(a, a), eq(a, a), ne(a, a), lt(a, a), le(a, a), in(a, a), in(a, a, a), has(a, a)) {
		for _, s := range []string{"a", " ", "and", "x", "\x00", times("a", 1000)} {
			said := e
			said.S = s
			isNone(t, said)
		}
	}
	for _, e := range exprs(text(""), text("a"), variable("a"), claim(""), claim("a"), not(a), and(a, a), or(a, a), eq(a, a), ne(a, a), lt(a, a), le(a, a), in(a, a), in(a, a, a), has(a, a)) {
		for _, n := range []int64{1, -1, 2, 1 << 32, math.MaxInt64, math.MinInt64} {
			said := e
			said.N = n
			isNone(t, said)
		}
	}
}

// What a text, a claim, a scope may say.
func TestP12_2RightTexts(t *testing.T) {
	ask := func(s string) {
		l := []api.Expr{text(s), claim(s)}
		scopes := rules(permit(texts(s)), deny(texts("a", s, "b")))
		if refQuotable(s) {
			isWhole(t, l...)
			isPrinted(t, scopes, refPrint(scopes))
		} else {
			isNone(t, l...)
			isNotRight(t, scopes)
			isNotRight(t, scopes[:1])
			isNotRight(t, scopes[1:])
		}
	}
	for c := range 256 {
		s := string([]byte{byte(c)})
		ask(s)
		ask("a" + s + "b")
		ask("\xc3" + s)
		ask(s + `"`)
	}
	for _, s := range []string{"", " ", "\x7f", "\u0080", "\u20ac", "\U0010ffff", "\ufffd", "\u2028", "\xed\xa0\x80", "\xf4\x90\x80\x80", "\xc0\x80", "\xe2\x82", `\`, `\\`, `"`, `\"`, `"\`, `\n`, "a\nb", "a\r", "\t", times("a", 5000), times("\u20ac", 700) + "\xff", "#", ";", "permit;", "(", "claim(\"a\")"} {
		ask(s)
	}
}

// What a variable may be named.
func TestP12_2RightVariables(t *testing.T) {
	for _, s := range strings.Fields("subject client owner resource scope time x _ __ permit_ permi _deny denys whens an ands o ors no nots i inn ha hass trues tru fals falses clai claims claim_ end null texts " + times("a", 32) + " " + times("_", 31)) {
		isWhole(t, variable(s))
	}
	isNone(t, variable(""))
	for _, s := range kept {
		isNone(t, variable(s))
		isWhole(t, variable(s+"_"), variable("_"+s), variable(s+s), text(s), claim(s))
		scopes := rules(permit(texts(s)))
		isPrinted(t, scopes, `permit scope "`+s+`";`)
	}
	if len(kept) != 11 {
		t.Errorf("%d words", len(kept))
	}
	for c := range 256 {
		for _, s := range []string{string([]byte{byte(c)}), string([]byte{'a', byte(c)}), string([]byte{byte(c), 'a'}), string([]byte{'a', byte(c), 'b'})} {
			if refWord.MatchString(s) && !isKept(s) {
				isWhole(t, variable(s))
			} else {
				isNone(t, variable(s))
			}
		}
	}
	for _, s := range []string{times("a", 33), times("a", 34), times("a", 1<<16), "a b", "permit ", " x", "x\n", "Permit", "x1", "1", "-1", "a-b", "a.b", `"a"`, "(", "()", "=", ";", "<=", "#", "é", "x#", "\xff", "not x", "a and b", "claim(\"a\")", "[a]"} {
		isNone(t, variable(s))
	}
}

func TestP12_2RightScopes(t *testing.T) {
	for n := range 20 {
		var l []string
		for range n {
			l = append(l, "a")
		}
		for _, when := range [][]api.Expr{nil, exprs(truth(1))} {
			r := rules(permit(nil), deny(l, when...), permit(texts("x")))
			if n <= 16 {
				isPrinted(t, r, refPrint(r))
			} else {
				isNotRight(t, r)
				isNotRight(t, r[1:])
				isNotRight(t, r[1:2])
			}
		}
	}
	isNotRight(t, rules(permit(make([]string, 1<<20))))
	isNotRight(t, rules(permit(strings.Split(times("a", 17), ""))))
	isPrinted(t, rules(permit(texts("b", "a", "b", "B", "é", "", "not a name", times("x", 100)))), `permit scope "b", "a", "b", "B", "é", "", "not a name", "`+times("x", 100)+`";`)
	for place := range 16 {
		l := make([]string, 16)
		isPrinted(t, rules(permit(l)), "permit scope "+strings.TrimSuffix(times(`"", `, 16), ", ")+";")
		l[place] = "\x1f"
		isNotRight(t, rules(permit(l)))
	}
}

func TestP12_2RightWhens(t *testing.T) {
	x := variable("x")
	isPrinted(t, rules(permit(nil)), "permit;")
	isPrinted(t, rules(permit(nil, x)), "permit when x;")
	isNotRight(t, rules(permit(nil, x, x)))
	isNotRight(t, rules(permit(nil, x, x, x)))
	isNotRight(t, rules(deny(texts("a"), make([]api.Expr, 1<<16)...)))
	isNotRight(t, rules(permit(nil, x, api.Expr{})))
	isNotRight(t, rules(permit(nil, api.Expr{}, x)))
}

func TestP12_2RightRules(t *testing.T) {
	for _, r := range rules(permit(nil), deny(nil), permit(texts("a", "b")), deny(texts("a"), not(variable("x")))) {
		var l []api.Rule
		for n := range 20 {
			if n <= 16 {
				isPrinted(t, l, strings.TrimSuffix(times(refPrint(rules(r))+"\n", n), "\n"))
			} else {
				isNotRight(t, l)
			}
			for place := range min(n, 16) {
				for _, wrong := range rules(permit(texts("\n")), deny(nil, api.Expr{}), permit(nil, truth(1), truth(1)), permit(make([]string, 17))) {
					spoiled := append(rules(), l...)
					spoiled[place] = wrong
					isNotRight(t, spoiled)
				}
			}
			l = append(l, r)
		}
	}
	isNotRight(t, make([]api.Rule, 17))
	isNotRight(t, make([]api.Rule, 1<<20))
	isPrinted(t, make([]api.Rule, 16), strings.TrimSuffix(times("permit;\n", 16), "\n"))
}

// Places count for nothing.
func TestP12_2RightPlaces(t *testing.T) {
	for _, pos := range []int{0, 1, -1, 2048, 1 << 40, math.MaxInt, math.MinInt} {
		isPrinted(t, rules(ruleAt(pos, permit(texts("a"), at(pos, and(at(pos, not(at(pos, variable("x")))), at(pos, in(at(pos, number(7)), at(pos, claim("a"))))))))), `permit scope "a" when not x and 7 in [claim("a")];`)
	}
}

// within is a leaf within n expressions, each of an op as a part of the next.
func within(op, part, n int, leaf api.Expr) api.Expr {
	e := leaf
	for range n {
		whole := api.Expr{Op: op, L: exprs(e)}
		if op != 6 {
			whole.L = exprs(truth(1), truth(0))
			whole.L[part] = e
		}
		e = whole
	}
	return e
}

// Of expressions within one another there may be 200, the innermost with them.
func TestP12_2RightWithin(t *testing.T) {
	x := variable("x")
	for op := 6; op <= 14; op++ {
		for part := range 2 {
			for _, n := range []int{0, 1, 2, 11, 12, 13, 100, 197, 198, 199} {
				isPrinted(t, when(within(op, part, n, x)), refPrint(when(within(op, part, n, x))))
			}
			for _, n := range []int{200, 201, 202, 255, 256, 257, 1000, 60000} {
				isNotRight(t, when(within(op, part, n, x)))
				isNotRight(t, rules(permit(nil), deny(nil, within(op, part, n, x))))
			}
			for _, other := range []int{6, 7, 13} {
				isPrinted(t, when(within(op, part, 99, within(other, 1, 100, x))), refPrint(when(within(op, part, 99, within(other, 1, 100, x)))))
				isNotRight(t, when(within(op, part, 100, within(other, 1, 100, x))))
				isNotRight(t, when(within(op, part, 200, api.Expr{})))
			}
		}
	}
	deep := within(6, 0, 197, x)
	isPrinted(t, when(in(x, x, not(deep), x)), "permit when x in [x, ("+times("not ", 198)+"x), x];")
	isNotRight(t, when(in(x, x, not(not(deep)), x)))
	// One beside the other they may be as many as there are.
	var items []api.Expr
	for range 1000 {
		items = append(items, deep)
	}
	isPrinted(t, when(in(items...)), refPrint(when(in(items...))))
	isPrinted(t, rules(permit(nil, not(deep)), deny(nil, not(deep))), refPrint(rules(permit(nil, not(deep)), deny(nil, not(deep)))))
}

// An expression that stands within itself isn't right.
func TestP12_2RightWithinItself(t *testing.T) {
	for _, op := range []int{6, 7, 13, 14} {
		for part := range 2 {
			e := within(op, part, 1, truth(1))
			for i := range e.L {
				e.L[i] = api.Expr{Op: op, L: e.L}
			}
			isRefused(t, when(e))
		}
	}
}

// isRefused tells a test that l mustn't be right; nothing of it is told.
func isRefused(t *testing.T, l []api.Rule) {
	t.Helper()
	s, err := pol.Print(l)
	if pol.Right(l) || s != "" || err != api.ErrArg {
		t.Errorf("is right: %.200q, %v", s, err)
	}
}

// Right rules, and such with something done to them, against the reference.
func TestP12_2RightAny(t *testing.T) {
	chance := rand.New(rand.NewPCG(12, 20))
	right := 0
	for range 40000 {
		l := anyRules(chance, 3, chance.IntN(5))
		was := show(l)
		if !pol.Right(l) {
			t.Errorf("%s isn't right", was)
		}
		l = unplaced(l)
		for i := range l {
			if chance.IntN(2) == 0 {
				bend(chance, &l[i])
			}
		}
		if refRight(l) {
			right++
			isPrinted(t, l, refPrint(l))
		} else {
			isNotRight(t, l)
		}
	}
	if right < 10000 || right > 30000 {
		t.Errorf("%d were right", right)
	}
}

// bend does something to a rule, perhaps such that it is right.
func bend(chance *rand.Rand, r *api.Rule) {
	if len(r.When) == 0 || chance.IntN(6) == 0 {
		r.Scopes = append(r.Scopes, anyOf(chance, "a", "\n", "\xff", "é", ""))
		return
	}
	e := &r.When[0]
	for len(e.L) > 0 && chance.IntN(3) > 0 {
		e = &e.L[chance.IntN(len(e.L))]
	}
	switch chance.IntN(6) {
	case 0:
		e.Op = chance.IntN(16)
	case 1:
		e.S = anyOf(chance, "", "a", "not", "claim", "a b", "\n", "\xff", times("a", 33))
	case 2:
		e.N = anyOf[int64](chance, 0, 1, 2, -1, maxInt, maxInt+1, -maxInt, -maxInt-1)
	case 3:
		e.L = append(e.L, anyLeaf(chance))
	case 4:
		e.L = e.L[:len(e.L)/2]
	case 5:
		e.Pos = chance.IntN(100) - 50
	}
}
