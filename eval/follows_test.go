package eval_test

import (
	"math/rand/v2"
	"slices"
	"testing"

	"warrant/api"
	"warrant/check"
	"warrant/eval"
)

// said tells what a policy says, and wants to know.
func said(t *testing.T, l []api.Rule, a api.Ask) (int, []string) {
	t.Helper()
	verdict, wanted, err := eval.Decide(l, a)
	if err != nil {
		t.Fatalf("Decide(%.900s): %v", show(l), err)
	}
	return verdict, wanted
}

// A rule with Deny more, wherever it stands, never makes it Permit.
func TestP14_4DenyMore(t *testing.T) {
	chance := rand.New(rand.NewPCG(14, 4))
	turned := map[[2]int]int{}
	for range 40000 {
		l, a, more := anyRules(chance, 6, chance.IntN(4)), anyAsk(chance), anyRule(chance, chance.IntN(4))
		more.Deny = true
		longer := slices.Insert(slices.Clone(l), chance.IntN(len(l)+1), more)
		was, _ := said(t, l, a)
		is, _ := said(t, longer, a)
		turned[[2]int{was, is}]++
		if is == permits && was != permits {
			t.Errorf("%d of %.900s; with %.900s it is Permit", was, show(l, a), show(more))
		}
		scopes := texts("x", "y", "z", "w", "v")
		wide, _, _ := eval.Scopes(l, a, scopes)
		narrow, _, _ := eval.Scopes(longer, a, scopes)
		for _, name := range narrow {
			if !slices.Contains(wide, name) {
				t.Errorf("%q is permitted with a rule more that denies", name)
			}
		}
	}
	for _, one := range [][2]int{{permits, permits}, {permits, denies}, {permits, needs}, {needs, needs}, {needs, denies}, {denies, denies}} {
		if turned[one] < 200 {
			t.Errorf("too few of %v: %v", one, turned)
		}
	}
}

func TestP14_4NoRules(t *testing.T) {
	chance := rand.New(rand.NewPCG(14, 40))
	for range 2000 {
		a := anyAsk(chance)
		isSaid(t, nil, a, denies)
		isSaid(t, rules(), a, denies)
		areScopes(t, nil, a, texts("x", "y"), nil, nil)
	}
}

// If all claims that rules ask for are told, whatever is told, it isn't Need.
func TestP14_4AllTold(t *testing.T) {
	chance := rand.New(rand.NewPCG(14, 41))
	needed := 0
	for range 40000 {
		l, a := anyRules(chance, 6, chance.IntN(4)), anyAsk(chance)
		a.Claims.Kind = 5
		verdict, wanted := said(t, l, a)
		if verdict == needs {
			needed++
		}
		names := check.Claims(l)
		for _, name := range wanted {
			if !slices.Contains(names, name) {
				t.Errorf("%q is wanted, and no rule asks for it: %.900s", name, show(l))
			}
		}
		for _, name := range names {
			if !slices.Contains(a.Claims.K, name) {
				a.Claims = with(a.Claims, name, anyValue(chance, 2))
			}
		}
		if verdict, wanted := said(t, l, a); verdict == needs || len(wanted) > 0 {
			t.Errorf("%d, %q of %.900s", verdict, wanted, show(l, a))
		}
		if _, wanted, _ := eval.Scopes(l, a, texts("x", "y", "z", "w", "v")); len(wanted) > 0 {
			t.Errorf("%q are wanted of %.900s", wanted, show(l, a))
		}
	}
	if needed < 3000 {
		t.Errorf("%d needed to know something", needed)
	}
}

// Who tells just what is wanted isn't asked again: what else rules ask for didn't
// count.
func TestP14_4WantedTold(t *testing.T) {
	chance := rand.New(rand.NewPCG(14, 42))
	turned := map[int]int{}
	for range 40000 {
		l, a := anyRules(chance, 6, chance.IntN(4)), anyAsk(chance)
		a.Claims.Kind = 5
		verdict, wanted := said(t, l, a)
		if verdict != needs {
			continue
		}
		if len(wanted) == 0 {
			t.Errorf("nothing is wanted of %.900s", show(l, a))
		}
		for _, name := range wanted {
			if slices.Contains(a.Claims.K, name) {
				t.Errorf("%q is wanted, and was told: %.900s", name, show(l, a))
			}
			a.Claims = with(a.Claims, name, anyValue(chance, 2))
		}
		verdict, wanted = said(t, l, a)
		turned[verdict]++
		if verdict == needs || len(wanted) > 0 {
			t.Errorf("%d, %q of %.900s", verdict, wanted, show(l, a))
		}
	}
	if turned[permits] < 200 || turned[denies] < 500 {
		t.Errorf("too few of some: %v", turned)
	}
}
