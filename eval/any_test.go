package eval_test

import (
	"math/rand/v2"
	"testing"

	"warrant/api"
)

// The kinds of expressions, by their numbers; isAny is that of claims.
const (
	isBool   = 1
	isNumber = 2
	isText   = 3
	isAny    = -1
)

// someNames are names of claims; anyAsk tells of some of them.
var someNames = texts("a", "b", "c", "age", "role", "", "é")

// anyLeaf is an expression of a kind, without parts, of few worths, so that some
// are the same.
func anyLeaf(chance *rand.Rand, kind int) api.Expr {
	switch kind {
	case isBool:
		return truth(chance.Int64N(2))
	case isNumber:
		return anyOf(chance, number(7), number(8), number(-1), variable("time"))
	case isText:
		return anyOf(chance, text("x"), text("y"), text(""), variable("subject"), variable("client"), variable("owner"), variable("resource"), variable("scope"))
	}
	return claim(anyOf(chance, someNames...))
}

// anyExpr is an expression of a kind, well formed, with at most as many more
// within one another.
func anyExpr(chance *rand.Rand, kind, deep int) api.Expr {
	if chance.IntN(5) == 0 {
		kind = isAny
	}
	if kind != isBool || deep == 0 || chance.IntN(8) == 0 {
		return anyLeaf(chance, kind)
	}
	op := 6 + chance.IntN(9)
	return at(chance.IntN(100), ofOp(op, anyParts(chance, op, deep-1)...))
}

// anyParts are parts as an op asks for them.
func anyParts(chance *rand.Rand, op, deep int) []api.Expr {
	part := func(kind int) api.Expr { return anyExpr(chance, kind, deep) }
	kind := anyOf(chance, isBool, isNumber, isText, isAny)
	switch op {
	case 6:
		return exprs(part(isBool))
	case 7, 8:
		return exprs(part(isBool), part(isBool))
	case 11, 12:
		return exprs(part(isNumber), part(isNumber))
	case 14:
		return exprs(anyLeaf(chance, isAny), part(kind))
	}
	l := exprs(part(kind), part(kind))
	for op == 13 && chance.IntN(2) == 0 {
		l = append(l, part(kind))
	}
	return l
}

// anyRule is a rule, well formed.
func anyRule(chance *rand.Rand, deep int) api.Rule {
	r := api.Rule{Deny: chance.IntN(3) == 0, Pos: chance.IntN(100)}
	if chance.IntN(3) == 0 {
		for _, i := range chance.Perm(4)[:1+chance.IntN(3)] {
			r.Scopes = append(r.Scopes, string(rune('w'+i)))
		}
	}
	if chance.IntN(6) > 0 {
		r.When = exprs(anyExpr(chance, isBool, deep))
	}
	return r
}

// anyRules are at most as many rules, well formed.
func anyRules(chance *rand.Rand, most, deep int) []api.Rule {
	var l []api.Rule
	for range chance.IntN(most + 1) {
		l = append(l, anyRule(chance, deep))
	}
	return l
}

// anyValue is a value of any kind, one that JSON has or one that it hasn't.
func anyValue(chance *rand.Rand, deep int) api.Json {
	switch chance.IntN(12) {
	case 0:
		return vNull()
	case 1:
		return anyOf(chance, append(someWorths(), noWorths()...)...)
	case 2, 3, 4:
		return vTruth(chance.Int64N(2))
	case 5, 6:
		return vInt(chance.Int64N(3) + 6)
	case 7, 8:
		return vText(anyOf(chance, "x", "y", ""))
	}
	v := vList()
	for deep > 0 && chance.IntN(4) > 0 {
		v.L = append(v.L, anyValue(chance, deep-1))
	}
	return v
}

// anyAsk is an ask that tells of some claims, or all.
func anyAsk(chance *rand.Rand) api.Ask {
	word := func() string { return anyOf(chance, "x", "y", "z", "") }
	a := api.Ask{Subject: word(), Client: word(), Owner: word(), Resource: word(), Scope: anyOf(chance, "x", "y", "z", "w", "v"), Time: chance.Int64N(3) + 6, Claims: vObj()}
	most := chance.IntN(3)
	for _, name := range someNames {
		if chance.IntN(3) <= most {
			a.Claims = with(a.Claims, name, anyValue(chance, 2))
		}
	}
	if chance.IntN(50) == 0 {
		a.Claims.Kind = anyOf(chance, 0, 1, 4, 6)
	}
	return a
}

func TestP14_1Any(t *testing.T) {
	chance := rand.New(rand.NewPCG(14, 1))
	told, truths := map[int]int{}, map[byte]int{}
	for range 60000 {
		e, a := anyExpr(chance, anyOf(chance, isBool, isBool, isBool, isBool, isNumber, isText, isAny), chance.IntN(6)), anyAsk(chance)
		told[worthAsReference(t, e, a)]++
		truths[refTruthOf(refWorth(e, a))]++
	}
	if told[0] < 5000 || told[1] < 5000 || told[2] < 2000 || told[3] < 2000 || truths['t'] < 3000 || truths['f'] < 3000 {
		t.Errorf("too few of some: %v %v", told, truths)
	}
}

// All expressions of a few leaves, and of such.
func TestP14_1Small(t *testing.T) {
	a := telling("t", vTruth(1), "n", vInt(7), "l", vList(vTruth(1), vInt(7)))
	leaves := exprs(truth(0), truth(1), number(7), number(8), claim("t"), claim("n"), claim("l"), claim("missing"))
	isFit := func(op int, x, y api.Expr) bool {
		of := func(e api.Expr) int {
			switch e.Op {
			case 2:
				return isNumber
			case 5:
				return isAny
			}
			return isBool
		}
		goes := func(kind int, l ...int) bool {
			for _, k := range l {
				if k != kind && k != isAny && kind != isAny {
					return false
				}
			}
			return true
		}
		switch op {
		case 7, 8:
			return goes(isBool, of(x), of(y))
		case 11, 12:
			return goes(isNumber, of(x), of(y))
		case 14:
			return x.Op == 5
		}
		return goes(of(x), of(y))
	}
	small := append(exprs(), leaves...)
	for _, x := range leaves {
		if x.Op != 2 {
			small = append(small, not(x))
		}
		for _, y := range leaves {
			for op := 7; op <= 14; op++ {
				if isFit(op, x, y) {
					small = append(small, ofOp(op, x, y))
				}
			}
		}
	}
	told := map[byte]int{}
	for i, x := range small {
		worthAsReference(t, x, a)
		for j, y := range small {
			for op := 7; op <= 14; op++ {
				if isFit(op, x, y) && (i+j)%5 == 0 {
					e := ofOp(op, x, y)
					worthAsReference(t, e, a)
					told[refTruthOf(refWorth(e, a))]++
				}
			}
		}
	}
	if told['t'] < 3000 || told['f'] < 3000 || told['n'] < 3000 {
		t.Errorf("too few of some: %v", told)
	}
}

func TestP14_2Any(t *testing.T) {
	chance := rand.New(rand.NewPCG(14, 2))
	told := map[int]int{}
	for range 60000 {
		told[saidAsReference(t, anyRules(chance, anyOf(chance, 2, 5, 16), chance.IntN(4)), anyAsk(chance))]++
	}
	if told[permits] < 5000 || told[denies] < 5000 || told[needs] < 5000 {
		t.Errorf("too few of some: %v", told)
	}
}

func TestP14_3Any(t *testing.T) {
	chance := rand.New(rand.NewPCG(14, 3))
	someMay, someWant, both := 0, 0, 0
	for range 30000 {
		var scopes []string
		for range chance.IntN(7) {
			scopes = append(scopes, anyOf(chance, "x", "y", "z", "w", "v", ""))
		}
		permitted, wanted := scopesAsReference(t, anyRules(chance, anyOf(chance, 3, 6), chance.IntN(3)), anyAsk(chance), scopes)
		if len(permitted) > 0 {
			someMay++
		}
		if len(wanted) > 0 {
			someWant++
		}
		if len(permitted) > 0 && len(wanted) > 0 {
			both++
		}
	}
	if someMay < 3000 || someWant < 2000 || both < 150 {
		t.Errorf("too few of some: %d, %d, %d", someMay, someWant, both)
	}
}
