package eval_test

import (
	"slices"
	"testing"

	"warrant/api"
	"warrant/eval"
)

func TestP14_3Known(t *testing.T) {
	for _, c := range []struct {
		s                         string
		a                         api.Ask
		scopes, permitted, wanted []string
	}{
		{"", telling(), texts("a"), nil, nil}, {"permit;", telling(), nil, nil, nil}, {"permit;", telling(), []string{}, nil, nil}, {"permit;", telling(), texts("a"), texts("a"), nil}, {"permit;", telling(), texts("b", "a", "b", "c", "a"), texts("a", "b", "c"), nil}, {"deny;", telling(), texts("a", "b"), nil, nil},
		{`permit scope "a", "b";`, telling(), texts("c", "b", "a"), texts("a", "b"), nil}, {`permit; deny scope "b";`, telling(), texts("c", "b", "a"), texts("a", "c"), nil}, {`permit scope "c", "a"; deny scope "b", "a";`, telling(), texts("a", "b", "c"), texts("c"), nil},
		{`permit scope "a" when claim("y"); permit scope "b" when claim("x"); permit scope "c";`, telling(), texts("c", "b", "a"), texts("c"), texts("x", "y")}, {`permit scope "a" when claim("y"); permit scope "b" when claim("x"); permit scope "c";`, telling(), texts("c", "a"), texts("c"), texts("y")}, {`permit scope "a" when claim("y"); permit scope "b" when claim("x"); permit scope "c";`, telling("y", vTruth(1)), texts("c", "a"), texts("a", "c"), nil}, {`permit scope "a" when claim("y"); permit scope "b" when claim("x"); permit scope "c";`, telling("y", vTruth(0), "x", vNull()), texts("c", "b", "a"), texts("c"), nil},
		{`permit when claim("x") = scope;`, telling(), texts("a", "b"), nil, texts("x")}, {`permit when claim("x") = scope;`, telling("x", vText("b")), texts("a", "b"), texts("b"), nil}, {`permit when claim("x") has scope;`, telling("x", vList(vText("c"), vText("a"))), texts("a", "b", "c"), texts("a", "c"), nil}, {`permit when scope in ["a", "c"];`, telling(), texts("c", "b", "a", "sco"), texts("a", "c"), nil}, {`permit when scope = "sco";`, telling(), texts("a", "b"), nil, nil},
		// Wanted is what is wanted where it says that it needs to know, not elsewhere.
		{`permit when claim("x"); deny scope "a"; deny scope "b" when claim("y");`, telling(), texts("a"), nil, nil}, {`permit when claim("x"); deny scope "a"; deny scope "b" when claim("y");`, telling(), texts("a", "b"), nil, texts("x", "y")}, {`permit when claim("x"); deny scope "a"; deny scope "b" when claim("y");`, telling(), texts("c", "a"), nil, texts("x")}, {`permit scope "a"; permit when claim("x");`, telling(), texts("a"), texts("a"), nil}, {`permit scope "a"; permit when claim("x");`, telling(), texts("a", "b"), texts("a"), texts("x")}, {`permit scope "a"; deny scope "b" when claim("x");`, telling(), texts("a", "b"), texts("a"), nil},
		// Of any texts.
		{"permit;", telling(), texts("", "A b", "\xff", "a", "é"), texts("", "A b", "a", "é", "\xff"), nil}, {`permit scope "a";`, telling(), texts("", "A", "aa", "a b", "a"), texts("a"), nil}, {`permit when scope = "A b";`, telling(), texts("", "A b"), texts("A b"), nil},
	} {
		areScopes(t, read(t, c.s), c.a, c.scopes, c.permitted, c.wanted)
	}
	areScopes(t, nil, api.Ask{}, texts("a", "b"), nil, nil)
	areScopes(t, make([]api.Rule, 16), api.Ask{}, texts("b", "a"), texts("a", "b"), nil)
}

// It is what Decide says of each, whatever scope stands in the ask.
func TestP14_3AsDecide(t *testing.T) {
	l := read(t, `permit scope "a", "b", "c"; deny scope "b" when claim("x"); permit scope "d" when claim("y") or claim("z") and time > 5; deny when scope = "e"; permit scope "e"; deny scope "c";`)
	all := texts("a", "b", "c", "d", "e", "f")
	for set := range 1 << len(all) {
		var scopes, permitted, wanted []string
		for i, name := range all {
			if set>>i&1 == 0 {
				continue
			}
			scopes = append(scopes, name, name)
			verdict, names, err := eval.Decide(l, of(name, telling()))
			if err != nil {
				t.Fatal(err)
			}
			if verdict == permits {
				permitted = append(permitted, name)
			}
			wanted = append(wanted, names...)
		}
		slices.Sort(wanted)
		wanted = slices.Compact(wanted)
		for _, name := range texts("", "a", "b", "d", "e", "sco") {
			areScopes(t, l, of(name, telling()), scopes, permitted, wanted)
		}
		slices.Reverse(scopes)
		areScopes(t, l, telling(), scopes, permitted, wanted)
	}
	areScopes(t, l, telling(), all, texts("a"), texts("x", "y", "z"))
	areScopes(t, l, telling("x", vTruth(0), "z", vTruth(1)), all, texts("a", "b", "d"), nil)
	areScopes(t, l, telling("x", vTruth(0), "z", vTruth(0)), all, texts("a", "b"), texts("y"))
}

func TestP14_3Many(t *testing.T) {
	var scopes []string
	for n := range 2000 {
		scopes = append(scopes, times("x", n%5)+string(rune(0x100+n)))
	}
	rising := slices.Sorted(slices.Values(scopes))
	l := rules(permit(nil))
	areScopes(t, l, telling(), append(scopes, scopes...), rising, nil)
	areScopes(t, rules(permit(nil, claim("b")), deny(nil, claim("a"))), telling(), scopes, nil, texts("a", "b"))
	areScopes(t, rules(permit(nil), deny(nil, eq(variable("scope"), text(rising[7])))), telling(), scopes, slices.Delete(slices.Clone(rising), 7, 8), nil)
}

func TestP14_3NoMemoryShared(t *testing.T) {
	whole := times("ab", 16)
	scopes := texts(whole[:9], whole, whole[1:4])
	l := rules(permit(scopes), permit(texts("c"), claim(whole)))
	permitted, wanted, err := eval.Scopes(l, telling(), append(scopes, "c"))
	if len(permitted) != 3 || len(wanted) != 1 || err != nil {
		t.Fatalf("%q, %q, %v", permitted, wanted, err)
	}
	for _, s := range append(permitted, wanted...) {
		if liesIn(s, whole) {
			t.Errorf("%q lies within what was handed in", s)
		}
	}
	// What is told may be gone on with.
	for i := range permitted {
		permitted[i] = "spoiled"
	}
	_ = append(permitted, "more")
	_ = append(wanted[:0], "spoiled")
	areScopes(t, l, telling(), append(scopes, "c"), texts(whole[:9], whole, whole[1:4]), texts(whole))
}
