package check_test

import (
	"math/rand/v2"
	"testing"

	"warrant/api"
)

// anyExpr is an expression of a kind, well formed, with at most as many more
// within one another, each at any place.
func anyExpr(chance *rand.Rand, kind, deep int) api.Expr {
	pos := chance.IntN(2000) - 1000
	if kind == isAny || chance.IntN(8) == 0 {
		return at(pos, claim(anyOf(chance, "a", "b", "age", "", "é")))
	}
	if kind != isTruth || deep == 0 || chance.IntN(6) == 0 {
		return at(pos, anyOf(chance, ofKind(kind)...))
	}
	op := 6 + chance.IntN(9)
	return at(pos, ofOp(op, anyParts(chance, op, deep-1)...))
}

// anyParts are parts as an op asks for them.
func anyParts(chance *rand.Rand, op, deep int) []api.Expr {
	part := func(kind int) api.Expr { return anyExpr(chance, kind, deep) }
	kind := anyOf(chance, kinds...)
	switch op {
	case 6:
		return exprs(part(isTruth))
	case 7, 8:
		return exprs(part(isTruth), part(isTruth))
	case 9, 10:
		return exprs(part(kind), part(kind))
	case 11, 12:
		return exprs(part(isNumber), part(isNumber))
	case 14:
		return exprs(part(isAny), part(kind))
	}
	l := exprs(part(kind), part(kind))
	for chance.IntN(2) == 0 {
		l = append(l, part(kind))
	}
	return l
}

// anyRules are at most as many rules, well formed.
func anyRules(chance *rand.Rand, most, deep int) []api.Rule {
	var l []api.Rule
	for range chance.IntN(most + 1) {
		r := api.Rule{Deny: chance.IntN(2) == 0, Pos: chance.IntN(2000) - 1000}
		for _, i := range chance.Perm(16)[:chance.IntN(5)] {
			r.Scopes = append(r.Scopes, string(rune('a'+i)))
		}
		if chance.IntN(4) > 0 {
			r.When = exprs(anyExpr(chance, anyOf(chance, isTruth, isTruth, isAny), deep))
		}
		l = append(l, r)
	}
	return l
}

// bend does something to rules; they stay right, and perhaps well formed.
func bend(chance *rand.Rand, l []api.Rule) {
	if len(l) == 0 {
		return
	}
	r := &l[chance.IntN(len(l))]
	if len(r.When) == 0 || chance.IntN(5) == 0 {
		r.Scopes = append(r.Scopes, anyOf(chance, "a", "b", "c", "d", "é", "A", ""))
		return
	}
	bendExpr(chance, &r.When[0])
}

// bendExpr does something to an expression.
func bendExpr(chance *rand.Rand, e *api.Expr) {
	for len(e.L) > 0 && chance.IntN(3) > 0 {
		// The parts are made anew, as they may stand elsewhere, too.
		e.L = append(exprs(), e.L...)
		e = &e.L[chance.IntN(len(e.L))]
	}
	switch {
	case len(e.L) == 2 && chance.IntN(2) == 0:
		e.Op = 7 + chance.IntN(8)
	case e.Op == 4:
		e.S = anyOf(chance, "time", "subject", "x", "times", "owner")
	default:
		*e = at(chance.IntN(2000)-1000, anyOf(chance, ofKind(anyOf(chance, kinds...))...))
	}
}

// refCheck tells what Check of right rules must.
func refCheck(l []api.Rule) *refFault {
	for _, r := range l {
		count := map[string]int{}
		for _, s := range r.Scopes {
			if count[s]++; s == "" || s == "A" || s == "é" {
				return &refFault{api.ErrName, r.Pos}
			}
			if count[s] == 2 {
				return &refFault{api.ErrTwice, r.Pos}
			}
		}
		for _, e := range r.When {
			kind, fault := refKind(e)
			if fault == nil && (kind == isNumber || kind == isText) {
				fault = &refFault{api.ErrType, e.Pos}
			}
			if fault != nil {
				return fault
			}
		}
	}
	return nil
}

// Well-formed expressions, by how they are made, and such with something done to
// them, against the reference.
func TestP13_1Any(t *testing.T) {
	chance := rand.New(rand.NewPCG(13, 1))
	told := map[api.Errno]int{}
	for range 30000 {
		kind := anyOf(chance, isTruth, isTruth, isTruth, isTruth, isNumber, isText, isAny)
		e := anyExpr(chance, kind, chance.IntN(6))
		if e.Op == 5 {
			kind = isAny
		}
		isKind(t, e, kind)
		for range 1 + chance.IntN(3) {
			bendExpr(chance, &e)
		}
		told[asReference(t, e)]++
	}
	if told[0] < 3000 || told[api.ErrName] < 1000 || told[api.ErrType] < 3000 {
		t.Errorf("too few of some: %v", told)
	}
}

func TestP13_2Any(t *testing.T) {
	chance := rand.New(rand.NewPCG(13, 20))
	told := map[api.Errno]int{}
	for range 20000 {
		l := anyRules(chance, 5, chance.IntN(5))
		isChecked(t, l, 0, 0)
		for range 1 + chance.IntN(3) {
			bend(chance, l)
		}
		if fault := refCheck(l); fault != nil {
			told[fault.no]++
			isChecked(t, l, fault.no, fault.place)
			continue
		}
		told[0]++
		isChecked(t, l, 0, 0)
	}
	if told[0] < 3000 || told[api.ErrName] < 1000 || told[api.ErrTwice] < 500 || told[api.ErrType] < 3000 {
		t.Errorf("too few of some: %v", told)
	}
}
