package eval_test

import (
	"math"
	"slices"
	"testing"

	"warrant/api"
)

// truths are expressions of each truth: 't', 'f', and 'n' for none, of an ask
// that tells oddly of claims.
func truths() map[byte][]api.Expr {
	return map[byte][]api.Expr{
		't': exprs(truth(1), claim("yes"), claim("two"), claim("minus"), not(truth(0)), eq(number(1), number(1)), lt(number(1), variable("time")), has(claim("list"), number(7)), in(text("a"), text("b"), text("a"))),
		'f': exprs(truth(0), claim("no"), not(truth(1)), eq(number(1), number(2)), ne(text("a"), text("a")), lt(number(2), number(1)), has(claim("list"), number(8)), in(text("a"), text("b"))),
		'n': exprs(claim("missing"), claim("null"), claim("list"), claim("object"), claim("number"), claim("zero"), claim("text"), claim("empty"), claim("strange"), not(claim("missing")), eq(claim("missing"), number(1)), eq(claim("number"), text("a")), lt(claim("text"), number(1)), has(claim("number"), number(1)), in(text("a"), claim("missing"))),
	}
}

// oddly is the ask of which truths are such.
func oddly() api.Ask {
	return telling("yes", vTruth(1), "no", vTruth(0), "two", vTruth(2), "minus", vTruth(-1), "null", vNull(), "list", vList(vInt(7), vText("a")), "object", with(vObj(), "a", vTruth(1)), "number", vInt(1), "zero", vInt(0), "text", vText("true"), "empty", vText(""), "strange", api.Json{Kind: 9, N: 1})
}

// The truths of a not, and of two parts: a line each for the first one, a sign
// each for the second, both in the order t, f, n.
const (
	ofNot = "ftn"
	ofAnd = "tfn" + "fff" + "nfn"
	ofOr  = "ttt" + "tfn" + "tnn"
)

func TestP14_1Truths(t *testing.T) {
	a := oddly()
	tried := 0
	for i, first := range []byte("tfn") {
		for _, x := range truths()[first] {
			isTruth(t, not(x), a, ofNot[i])
			isTruth(t, not(not(not(x))), a, ofNot[i])
			if len(x.L) > 0 || x.Op == 1 {
				isTruth(t, x, a, first)
			}
			for j, second := range []byte("tfn") {
				for _, y := range truths()[second] {
					isTruth(t, and(x, y), a, ofAnd[3*i+j])
					isTruth(t, or(x, y), a, ofOr[3*i+j])
					tried++
				}
			}
		}
	}
	if tried != (9+8+15)*(9+8+15) {
		t.Errorf("%d were tried", tried)
	}
}

// The same is what is of one kind and one worth.
func TestP14_1Equal(t *testing.T) {
	worths := someWorths()
	for i, x := range worths {
		for j, y := range worths {
			a := telling("x", x, "y", y)
			equal, unlike := byte('f'), byte('t')
			switch {
			case x.Kind != y.Kind:
				equal, unlike = 'n', 'n'
			case i == j:
				equal, unlike = 't', 'f'
			}
			isTruth(t, eq(claim("x"), claim("y")), a, equal)
			isTruth(t, ne(claim("x"), claim("y")), a, unlike)
			isTruth(t, in(claim("x"), claim("y")), a, equal)
		}
		for _, none := range noWorths() {
			a := telling("x", x, "y", none)
			for _, op := range []int{9, 10, 13} {
				isNone(t, ofOp(op, claim("x"), claim("y")), a)
				isNone(t, ofOp(op, claim("y"), claim("x")), a)
				isNone(t, ofOp(op, claim("y"), claim("y")), a)
				isNone(t, ofOp(op, claim("z"), claim("x")), a)
				isNone(t, ofOp(op, claim("z"), claim("z")), a)
			}
		}
	}
}

// Parts of each kind of expression, not claims alone.
func TestP14_1EqualParts(t *testing.T) {
	a := telling("n", vInt(1000), "s", vText("sub"), "b", vTruth(1), "two", vTruth(2))
	for _, c := range []struct {
		x, y api.Expr
		want byte
	}{
		{number(7), number(7), 't'}, {number(7), number(-7), 'f'}, {number(0), number(0), 't'}, {variable("time"), number(1000), 't'}, {variable("time"), number(1001), 'f'}, {variable("time"), claim("n"), 't'}, {number(1000), claim("s"), 'n'},
		{text(""), text(""), 't'}, {text("a"), text("b"), 'f'}, {text("sub"), variable("subject"), 't'}, {variable("owner"), variable("client"), 'f'}, {variable("owner"), variable("owner"), 't'}, {claim("s"), variable("subject"), 't'}, {claim("n"), text("1000"), 'n'}, {text("own"), variable("owner"), 't'}, {text("res"), variable("resource"), 't'}, {text("sco"), variable("scope"), 't'}, {text("cli"), variable("client"), 't'}, {text("sco"), variable("resource"), 'f'},
		{truth(1), truth(1), 't'}, {truth(1), truth(0), 'f'}, {truth(0), truth(0), 't'}, {truth(1), claim("b"), 't'}, {truth(0), claim("b"), 'f'}, {truth(1), claim("two"), 'f'}, {truth(1), not(claim("two")), 'f'}, {truth(0), not(claim("two")), 't'}, {not(not(claim("two"))), truth(1), 't'}, {not(not(claim("two"))), claim("two"), 'f'},
		{eq(number(1), number(2)), eq(text("a"), text("b")), 't'}, {eq(number(1), number(1)), lt(number(2), number(1)), 'f'}, {eq(number(1), claim("zzz")), truth(0), 'n'}, {truth(1), and(truth(1), claim("n")), 'n'}, {or(truth(1), claim("n")), truth(1), 't'}, {claim("b"), claim("s"), 'n'},
	} {
		other := map[byte]byte{'t': 'f', 'f': 't', 'n': 'n'}[c.want]
		isTruth(t, eq(c.x, c.y), a, c.want)
		isTruth(t, eq(c.y, c.x), a, c.want)
		isTruth(t, ne(c.x, c.y), a, other)
		isTruth(t, ne(c.y, c.x), a, other)
		isTruth(t, in(c.x, c.y), a, c.want)
		isTruth(t, in(c.y, c.x), a, c.want)
	}
}

func TestP14_1Less(t *testing.T) {
	rising := []int64{math.MinInt64, math.MinInt64 + 1, -maxInt - 1, -maxInt, -1000, -1, 0, 1, 2, 999, 1000, 1001, maxInt, maxInt + 1, math.MaxInt64 - 1, math.MaxInt64}
	sign := func(isSo bool) byte {
		if isSo {
			return 't'
		}
		return 'f'
	}
	for i, x := range rising {
		for j, y := range rising {
			a := telling("x", vInt(x), "y", vInt(y))
			isTruth(t, lt(claim("x"), claim("y")), a, sign(i < j))
			isTruth(t, le(claim("x"), claim("y")), a, sign(i <= j))
			a.Time = y
			isTruth(t, lt(claim("x"), variable("time")), a, sign(i < j))
			isTruth(t, le(variable("time"), claim("x")), a, sign(j <= i))
			if -maxInt <= x && x <= maxInt {
				isTruth(t, lt(number(x), claim("y")), a, sign(i < j))
				isTruth(t, lt(claim("y"), number(x)), a, sign(j < i))
				isTruth(t, le(number(x), claim("y")), a, sign(i <= j))
				isTruth(t, le(claim("y"), number(x)), a, sign(j <= i))
			}
		}
	}
	for _, op := range []int{11, 12} {
		for _, x := range append(someWorths(), noWorths()...) {
			if x.Kind == 2 {
				continue
			}
			a := telling("x", x, "n", vInt(1))
			for _, e := range exprs(ofOp(op, claim("x"), number(1)), ofOp(op, number(1), claim("x")), ofOp(op, claim("x"), claim("x")), ofOp(op, claim("n"), claim("x")), ofOp(op, variable("time"), claim("x")), ofOp(op, claim("missing"), claim("n")), ofOp(op, number(0), claim("missing")), ofOp(op, claim("missing"), claim("missing"))) {
				isNone(t, e, a)
			}
		}
	}
}

// Items that are the same, others, and such as can't be told, at each place.
func TestP14_1In(t *testing.T) {
	a := telling("n", vInt(7), "other", vInt(8), "text", vText("7"), "null", vNull(), "list", vList(vInt(7)))
	items := map[byte][]api.Expr{'t': exprs(number(7), claim("n")), 'f': exprs(number(8), claim("other"), variable("time")), 'n': exprs(claim("missing"), claim("null"), claim("list"), claim("text"))}
	count := 0
	var try func(signs []byte, l []api.Expr)
	try = func(signs []byte, l []api.Expr) {
		if len(signs) > 0 {
			want := byte('f')
			switch {
			case slices.Contains(signs, 't'):
				want = 't'
			case slices.Contains(signs, 'n'):
				want = 'n'
			}
			isTruth(t, in(append(exprs(number(7)), l...)...), a, want)
			isTruth(t, in(append(exprs(claim("n")), l...)...), a, want)
			isNone(t, in(append(exprs(claim("missing")), l...)...), a)
			isNone(t, in(append(exprs(claim("null")), l...)...), a)
			isNone(t, in(append(exprs(claim("list")), l...)...), a)
		}
		if len(signs) == 5 {
			return
		}
		for _, sign := range []byte("tfn") {
			e := items[sign][count%len(items[sign])]
			count++
			try(append(slices.Clone(signs), sign), append(slices.Clone(l), e))
		}
	}
	try(nil, nil)
	if count != 3+9+27+81+243 {
		t.Errorf("%d were tried", count)
	}
	many := exprs(number(7))
	for range 5000 {
		many = append(many, number(8))
	}
	isTruth(t, in(many...), a, 'f')
	many[3000] = claim("missing")
	isTruth(t, in(many...), a, 'n')
	many[5000] = number(7)
	isTruth(t, in(many...), a, 't')
}

func TestP14_1Has(t *testing.T) {
	worths := someWorths()
	all := vList(worths...)
	for i, x := range worths {
		a := telling("x", x, "all", all, "none", vList(), "strange", vList(noWorths()...), "within", vList(vList(x), with(vObj(), "x", x)))
		isTruth(t, has(claim("all"), claim("x")), a, 't')
		isTruth(t, has(claim("none"), claim("x")), a, 'f')
		isTruth(t, has(claim("strange"), claim("x")), a, 'f')
		isTruth(t, has(claim("within"), claim("x")), a, 'f')
		isNone(t, has(claim("missing"), claim("x")), a)
		isNone(t, has(claim("x"), claim("x")), a)
		isNone(t, has(claim("all"), claim("missing")), a)
		isNone(t, has(claim("all"), claim("none")), a)
		isNone(t, has(claim("none"), claim("missing")), a)
		without := slices.Delete(slices.Clone(worths), i, i+1)
		isTruth(t, has(claim("l"), claim("x")), telling("x", x, "l", vList(without...)), 'f')
		for place := range 4 {
			l := slices.Insert(values(vNull(), vList(x), vInt(77)), place, x)
			isTruth(t, has(claim("l"), claim("x")), telling("x", x, "l", vList(l...)), 't')
		}
	}
	for _, none := range noWorths() {
		isNone(t, has(claim("all"), claim("x")), telling("all", vList(append(worths, none)...), "x", none))
		if none.Kind != 4 {
			isNone(t, has(claim("l"), number(1)), telling("l", none))
		}
	}
	a := telling("l", vList(vInt(1), vText("1"), vText("sub"), vTruth(1), vInt(1000)), "two", vList(vTruth(2)), "n", vInt(1))
	for _, c := range []struct {
		e    api.Expr
		want byte
	}{
		{number(1), 't'}, {number(2), 'f'}, {number(0), 'f'}, {text("1"), 't'}, {text(""), 'f'}, {text("2"), 'f'}, {truth(1), 't'}, {truth(0), 'f'}, {variable("subject"), 't'}, {variable("owner"), 'f'}, {variable("time"), 't'}, {claim("n"), 't'}, {claim("l"), 'n'}, {claim("two"), 'n'}, {eq(number(1), number(1)), 't'}, {eq(number(1), number(2)), 'f'}, {eq(claim("n"), text("1")), 'n'}, {not(claim("n")), 'n'}, {has(claim("l"), number(1)), 't'}, {has(claim("l"), number(2)), 'f'},
	} {
		isTruth(t, has(claim("l"), c.e), a, c.want)
	}
	isTruth(t, has(claim("two"), truth(1)), a, 'f')
	// Of several of a name the first.
	isTruth(t, has(claim("l"), number(1)), telling("l", vList(vInt(2)), "l", vList(vInt(1))), 'f')
	isNone(t, has(claim("l"), number(1)), telling("l", vNull(), "l", vList(vInt(1))))
}

// There may be 200 within one another, and many parts.
func TestP14_1Deep(t *testing.T) {
	a := telling("yes", vTruth(1), "l", vList(vTruth(1)))
	for _, n := range []int{1, 2, 100, 198, 199} {
		isTruth(t, within(6, 0, n, truth(1), truth(0)), a, "tf"[n%2])
		isTruth(t, within(6, 0, n, claim("no"), truth(0)), a, 'n')
		for part := range 2 {
			isTruth(t, within(7, part, n, truth(0), claim("yes")), a, 'f')
			isTruth(t, within(7, part, n, truth(1), claim("yes")), a, 't')
			isTruth(t, within(7, part, n, claim("no"), claim("yes")), a, 'n')
			isTruth(t, within(7, part, n, truth(0), claim("no")), a, 'f')
			isTruth(t, within(8, part, n, truth(1), claim("no")), a, 't')
			isTruth(t, within(8, part, n, truth(0), truth(0)), a, 'f')
			isTruth(t, within(8, part, n, truth(0), claim("no")), a, 'n')
			isTruth(t, within(9, part, n, truth(0), truth(0)), a, "ft"[n%2])
			isTruth(t, within(10, part, n, truth(0), truth(1)), a, "ft"[n%2])
			isTruth(t, within(13, part, n, truth(0), truth(0)), a, "ft"[n%2])
			isTruth(t, within(10, part, n, claim("no"), truth(1)), a, 'n')
		}
		isTruth(t, within(14, 1, n, truth(1), claim("l")), a, 't')
		isTruth(t, within(14, 1, n, claim("no"), claim("l")), a, 'n')
	}
	deep := vTruth(1)
	for range 5000 {
		deep = vList(deep)
	}
	isNone(t, claim("deep"), telling("deep", deep))
	isTruth(t, has(claim("deep"), truth(1)), telling("deep", deep), 'f')
	isNone(t, eq(claim("deep"), claim("deep")), telling("deep", deep))
}
