package pol_test

import (
	"math"
	"math/rand/v2"
	"testing"

	"warrant/api"
	"warrant/pol"
)

// areSame tells a test what Same must be of a and b, both ways.
func areSame(t *testing.T, a, b []api.Rule, want bool) {
	t.Helper()
	if pol.Same(a, b) != want || pol.Same(b, a) != want {
		t.Errorf("Same(%.300s, %.300s): not %v", show(a), show(b), want)
	}
}

// full are rules in which each field is something, places, too.
func full() []api.Rule {
	return rules(
		ruleAt(3, permit(texts("a", "b"), at(5, and(at(7, not(at(9, variable("x")))), at(11, in(at(13, number(7)), at(15, text("t")), at(17, claim("c")))))))),
		ruleAt(19, deny(texts("c"), at(21, truth(1)))),
		ruleAt(-23, permit(nil)),
	)
}

func TestP12_3Plain(t *testing.T) {
	isPlain := func(l []api.Rule) {
		t.Helper()
		was := show(l)
		if got := pol.Plain(l); !isSame(got, unplaced(l)) || show(l) != was {
			t.Errorf("Plain(%.300s): %.300s", was, show(got))
		}
	}
	isPlain(nil)
	isPlain(rules())
	isPlain(full())
	isPlain(unplaced(full()))
	// Of any rules, right or not.
	isPlain(make([]api.Rule, 100))
	isPlain(rules(ruleAt(1, permit(make([]string, 40), at(2, api.Expr{}), at(3, truth(9)), at(4, api.Expr{Op: -1, S: "\xff\n", N: 5, L: exprs(at(6, api.Expr{Op: 99, S: "s", N: math.MinInt64}))})))))
	isPlain(rules(ruleAt(math.MaxInt, deny(texts("\xff", "\n"), at(math.MinInt, not(at(math.MaxInt, api.Expr{Op: 1, S: "a", N: 1, L: exprs(at(-1, text("b")))})))))))
	for op := range 16 {
		isPlain(rules(ruleAt(1, permit(nil, at(2, api.Expr{Op: op, S: "s", N: 7, L: exprs(at(3, variable("x")), at(4, api.Expr{Op: op, L: exprs(at(5, truth(1)))}))})))))
	}
	chance := rand.New(rand.NewPCG(12, 30))
	for range 3000 {
		if l, err := pol.Parse(anyJoined(chance, anyTokens(chance, anyRules(chance, 4, 4)))); err == nil {
			isPlain(l)
		}
	}
	if got := pol.Plain(when(within(6, 0, 60000, at(9, variable("x"))))); !pol.Same(got, when(within(6, 0, 60000, variable("x")))) {
		t.Error("Plain of what is deep")
	}
}

func TestP12_3PlainNoMemoryShared(t *testing.T) {
	l := rules(ruleAt(1, permit(texts(times("ab", 9), "c"), at(2, and(at(3, text(times("cd", 9))), at(4, not(at(5, claim(times("ef", 9))))))))), ruleAt(6, deny(texts("d"), at(7, in(at(8, variable("x")), at(9, variable("y")))))))
	l[0].Scopes = append(make([]string, 0, 10), l[0].Scopes...)
	was := show(l)
	plain := pol.Plain(l)
	isOutside(t, plain[0].Scopes[0], l[0].Scopes[0])
	isOutside(t, plain[0].When[0].L[0].S, l[0].When[0].L[0].S)
	isOutside(t, plain[0].When[0].L[1].L[0].S, l[0].When[0].L[1].L[0].S)
	again := pol.Plain(l)
	spoil(t, plain, "")
	if show(l) != was || !isSame(again, unplaced(l)) {
		t.Errorf("Plain shares memory: %s", show(l))
	}
	// What stood in two places of what was handed in stands in two lists.
	parts := exprs(at(1, variable("a")), at(2, variable("b")))
	twice := pol.Plain(rules(permit(l[0].Scopes, api.Expr{Op: 7, L: exprs(api.Expr{Op: 8, L: parts}, api.Expr{Op: 8, L: parts})}), deny(l[0].Scopes, api.Expr{Op: 8, L: parts})))
	spoil(t, twice, "")
}

func TestP12_3Same(t *testing.T) {
	areSame(t, nil, nil, true)
	areSame(t, nil, rules(), true)
	areSame(t, nil, rules(permit(nil)), false)
	areSame(t, full(), full(), true)
	areSame(t, full(), nil, false)
	areSame(t, full(), full()[:2], false)
	areSame(t, full(), full()[1:], false)
	areSame(t, full(), unplaced(full()), false)
	areSame(t, rules(permit(nil), deny(nil)), rules(deny(nil), permit(nil)), false)
	areSame(t, rules(permit(texts(), exprs()...)), rules(permit(nil)), true)
	areSame(t, when(api.Expr{Op: 4, L: exprs()}), when(api.Expr{Op: 4}), true)
	areSame(t, rules(api.Rule{}), rules(api.Rule{}), true)
	areSame(t, when(api.Expr{}), rules(permit(nil)), false)
	areSame(t, rules(permit(texts("a", "b"))), rules(permit(texts("b", "a"))), false)
	areSame(t, rules(permit(texts("a"))), rules(permit(texts("a", "a"))), false)
	areSame(t, rules(permit(texts("a b"))), rules(permit(texts("a", "b"))), false)
	areSame(t, rules(permit(texts(""))), rules(permit(nil)), false)
	x, y := variable("x"), variable("y")
	areSame(t, when(eq(x, y)), when(eq(y, x)), false)
	areSame(t, when(in(x, y)), when(in(x, y, y)), false)
	areSame(t, when(in(x, x, y)), when(in(x, y, x)), false)
	areSame(t, when(not(x)), when(x), false)
	areSame(t, rules(permit(nil, x, y)), when(x), false)
	areSame(t, rules(permit(nil, x, y)), rules(permit(nil, x, x)), false)
	areSame(t, when(lt(x, y)), when(le(x, y)), false)
	areSame(t, when(within(6, 0, 60000, x)), when(within(6, 0, 60000, x)), true)
	areSame(t, when(within(6, 0, 60000, x)), when(within(6, 0, 60000, y)), false)
	// Of any rules, right or not.
	areSame(t, when(api.Expr{Op: -1, S: "\xff", N: -9, Pos: -3}), when(api.Expr{Op: -1, S: "\xff", N: -9, Pos: -3}), true)
	areSame(t, make([]api.Rule, 1000), make([]api.Rule, 1000), true)
	areSame(t, make([]api.Rule, 1000), make([]api.Rule, 1001), false)
}

// Each field, wherever it stands, makes rules unlike.
func TestP12_3SameFields(t *testing.T) {
	changes := 0
	change := func(do func(l []api.Rule)) {
		t.Helper()
		l := full()
		do(l)
		areSame(t, full(), l, false)
		areSame(t, l, l, true)
		changes++
	}
	var each func(find func(l []api.Rule) *api.Expr)
	each = func(find func(l []api.Rule) *api.Expr) {
		change(func(l []api.Rule) { find(l).Op++ })
		change(func(l []api.Rule) { find(l).Op = -1 })
		change(func(l []api.Rule) { find(l).S += "s" })
		change(func(l []api.Rule) { find(l).S = "\x00" })
		change(func(l []api.Rule) { find(l).N++ })
		change(func(l []api.Rule) { find(l).N += 1 << 32 })
		change(func(l []api.Rule) { find(l).Pos++ })
		change(func(l []api.Rule) { find(l).Pos = 0 })
		change(func(l []api.Rule) { find(l).L = append(find(l).L, api.Expr{}) })
		change(func(l []api.Rule) { e := find(l); *e = not(*e) })
		for i := range find(full()).L {
			each(func(l []api.Rule) *api.Expr { return &find(l).L[i] })
			change(func(l []api.Rule) { find(l).L = find(l).L[i+1:] })
			change(func(l []api.Rule) { find(l).L = find(l).L[:i] })
		}
	}
	for i, r := range full() {
		change(func(l []api.Rule) { l[i].Deny = !l[i].Deny })
		change(func(l []api.Rule) { l[i].Pos++ })
		change(func(l []api.Rule) { l[i].Pos = 0 })
		change(func(l []api.Rule) { l[i].Scopes = append(l[i].Scopes, "") })
		change(func(l []api.Rule) { l[i].When = append(l[i].When, api.Expr{}) })
		change(func(l []api.Rule) { l[i] = api.Rule{} })
		for j := range r.Scopes {
			change(func(l []api.Rule) { l[i].Scopes[j] += " " })
			change(func(l []api.Rule) { l[i].Scopes[j] = "" })
			change(func(l []api.Rule) { l[i].Scopes = l[i].Scopes[j+1:] })
			change(func(l []api.Rule) { l[i].Scopes = l[i].Scopes[:j] })
		}
		for j := range r.When {
			each(func(l []api.Rule) *api.Expr { return &l[i].When[j] })
			change(func(l []api.Rule) { l[i].When = nil })
		}
	}
	if changes < 100 {
		t.Errorf("%d changes", changes)
	}
}

func TestP12_3SameAny(t *testing.T) {
	chance := rand.New(rand.NewPCG(12, 31))
	same := 0
	for range 20000 {
		a, b := anyRules(chance, 1, 1), anyRules(chance, 1, 1)
		if chance.IntN(2) == 0 {
			b = unplaced(a)
		}
		for i := range b {
			if chance.IntN(2) == 0 {
				bend(chance, &b[i])
			}
		}
		wasA, wasB := show(a), show(b)
		areSame(t, a, b, wasA == wasB)
		if wasA == wasB {
			same++
		}
		if show(a) != wasA || show(b) != wasB {
			t.Errorf("Same changed %s or %s", wasA, wasB)
		}
	}
	if same < 5000 || same > 18000 {
		t.Errorf("%d were the same", same)
	}
}
