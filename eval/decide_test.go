package eval_test

import (
	"slices"
	"strings"
	"testing"

	"warrant/api"
	"warrant/eval"
)

func TestP14_2Known(t *testing.T) {
	for _, c := range []struct {
		s      string
		a      api.Ask
		want   int
		wanted string // names, a blank between
	}{
		{"", telling(), denies, ""}, {"permit;", telling(), permits, ""}, {"deny;", telling(), denies, ""}, {"deny; permit;", telling(), denies, ""}, {"permit; deny;", telling(), denies, ""}, {"permit; permit;", telling(), permits, ""}, {"permit;", api.Ask{}, permits, ""},
		{`permit when claim("age") >= 18;`, telling(), needs, "age"}, {`permit when claim("age") >= 18;`, telling("age", vInt(17)), denies, ""}, {`permit when claim("age") >= 18;`, telling("age", vInt(18)), permits, ""}, {`permit when claim("age") >= 18;`, telling("age", vText("x")), denies, ""}, {`permit when claim("age") >= 18;`, telling("age", vNull()), denies, ""}, {`permit when claim("age") >= 18;`, telling("Age", vInt(18)), needs, "age"}, {`permit when claim("age") >= 18;`, api.Ask{}, needs, "age"},
		{`permit when subject = "sub";`, telling(), permits, ""}, {`permit when subject = owner;`, telling(), denies, ""}, {`permit when time < 1001;`, telling(), permits, ""}, {`permit when time < 1000;`, telling(), denies, ""}, {"permit when false;", telling(), denies, ""}, {"permit when true;", telling(), permits, ""}, {"deny when false;", telling(), denies, ""}, {"deny when false; permit;", telling(), permits, ""}, {"deny when true; permit;", telling(), denies, ""},
		{`deny when claim("bad"); permit;`, telling(), needs, "bad"}, {`deny when claim("bad"); permit;`, telling("bad", vTruth(0)), permits, ""}, {`deny when claim("bad"); permit;`, telling("bad", vTruth(1)), denies, ""}, {`deny when claim("bad"); permit;`, telling("bad", vNull()), denies, ""}, {`deny when claim("bad"); permit;`, telling("bad", vInt(0)), denies, ""}, {`deny when claim("bad"); permit;`, telling("bad", vTruth(7)), denies, ""}, {`deny when claim("bad"); permit when false;`, telling(), denies, ""}, {`deny when claim("bad");`, telling(), denies, ""},
		{`deny when claim("bad"); permit when claim("good");`, telling(), needs, "bad good"}, {`deny when claim("bad"); permit when claim("good");`, telling("good", vTruth(1)), needs, "bad"}, {`deny when claim("bad"); permit when claim("good");`, telling("good", vTruth(0)), denies, ""}, {`deny when claim("bad"); permit when claim("good");`, telling("bad", vTruth(0)), needs, "good"}, {`deny when claim("bad"); permit when claim("good");`, telling("bad", vTruth(1)), denies, ""}, {`deny when claim("bad"); permit when claim("good");`, telling("bad", vNull()), needs, "good"}, {`deny when claim("bad"); permit when claim("good");`, telling("good", vNull()), needs, "bad"},
		{`permit when claim("a"); permit;`, telling(), permits, ""}, {`permit when claim("a"); permit when false;`, telling(), needs, "a"}, {`permit when claim("a"); deny;`, telling(), denies, ""}, {`permit when claim("a"); deny when false;`, telling(), needs, "a"},
		{`permit when claim("b") and claim("a");`, telling(), needs, "a b"}, {`permit when claim("b") and claim("a");`, telling("a", vTruth(1)), needs, "b"}, {`permit when claim("b") and claim("a");`, telling("a", vTruth(0)), denies, ""}, {`permit when claim("b") or claim("a");`, telling("a", vTruth(0)), needs, "b"}, {`permit when claim("b") or claim("a");`, telling("a", vTruth(1)), permits, ""}, {`permit when claim("b") or claim("a");`, telling("a", vInt(1)), needs, "b"}, {`permit when claim("a") and claim("b");`, telling("a", vInt(1)), needs, "b"},
		{`permit when claim("r") has "x";`, telling(), needs, "r"}, {`permit when claim("r") has "x";`, telling("r", vList(vText("x"))), permits, ""}, {`permit when claim("r") has "x";`, telling("r", vList()), denies, ""}, {`permit when claim("r") has "x";`, telling("r", vText("x")), denies, ""}, {`permit when claim("r") has claim("x");`, telling("r", vList()), needs, "x"}, {`permit when claim("r") has claim("x");`, telling("x", vInt(1)), needs, "r"}, {`permit when claim("r") has scope;`, telling("r", vList(vText("sco"))), permits, ""},
		{`permit when not claim("a") = 1;`, telling(), needs, "a"}, {`permit when not claim("a") = 1;`, telling("a", vInt(2)), permits, ""}, {`permit when not claim("a") = 1;`, telling("a", vText("1")), denies, ""}, {`permit when claim("a") != 1;`, telling("a", vInt(2)), permits, ""}, {`permit when claim("a") in [1, 2, claim("b")];`, telling("a", vInt(2)), permits, ""}, {`permit when claim("a") in [1, 2, claim("b")];`, telling("a", vInt(3)), needs, "b"}, {`permit when claim("a") in [1, 2, claim("b")];`, telling("a", vInt(3), "b", vInt(4)), denies, ""},
		{`permit when claim("");`, telling(), needs, " "}, {`permit when claim("b") = claim("é") and claim("B") = claim("aa") or claim("b");`, telling(), needs, "B aa b é"},
		{`permit scope "read"; `, of("read", telling()), permits, ""}, {`permit scope "read"; `, of("write", telling()), denies, ""}, {`permit scope "read", "write"; deny scope "write";`, of("read", telling()), permits, ""}, {`permit scope "read", "write"; deny scope "write";`, of("write", telling()), denies, ""}, {`permit; deny scope "write" when claim("a");`, of("read", telling()), permits, ""}, {`permit; deny scope "write" when claim("a");`, of("write", telling()), needs, "a"}, {`permit scope "read" when claim("a"); permit scope "write" when claim("b");`, of("write", telling()), needs, "b"}, {`permit scope "read" when claim("a"); permit scope "write" when claim("b");`, of("", telling()), denies, ""}, {`permit when scope = "x";`, of("x", telling()), permits, ""},
	} {
		wanted := strings.Fields(c.wanted)
		if c.wanted == " " {
			wanted = texts("")
		}
		isSaid(t, read(t, c.s), c.a, c.want, wanted...)
	}
	isSaid(t, nil, telling(), denies)
	isSaid(t, rules(), api.Ask{}, denies)
	isSaid(t, make([]api.Rule, 16), api.Ask{}, permits)
}

// All policies of a few rules: of each rule whether it denies, which truth it
// has, whether what it asks for is told, and whether it holds.
func TestP14_2SmallPolicies(t *testing.T) {
	a := telling("yes", vTruth(1), "no", vTruth(0), "odd", vInt(7))
	var kinds []api.Rule
	for _, e := range exprs(claim("yes"), claim("no"), claim("odd"), claim("one"), or(claim("odd"), claim("two"))) {
		for _, scopes := range [][]string{nil, {"a", "sco"}, {"b"}} {
			kinds = append(kinds, permit(scopes, e), deny(scopes, e))
		}
	}
	kinds = append(kinds, permit(nil), deny(nil), permit(texts("sco")), deny(texts("b")))
	told := map[int]int{}
	for _, x := range kinds {
		told[saidAsReference(t, rules(x), a)]++
		for _, y := range kinds {
			told[saidAsReference(t, rules(x, y), a)]++
			for _, z := range kinds {
				told[saidAsReference(t, rules(x, y, z), a)]++
			}
		}
	}
	if told[permits] < 3000 || told[denies] < 10000 || told[needs] < 3000 {
		t.Errorf("too few of some: %v", told)
	}
}

// What each truth of a rule that denies makes of each of one that permits.
func TestP14_2Table(t *testing.T) {
	whens := map[byte]api.Expr{'f': truth(0), 'n': claim("null"), 'w': claim("missing"), 't': truth(1)}
	for _, c := range []struct {
		denied, permitted byte // w: none, and it is wanted
		want              int
	}{
		{'f', 'f', denies}, {'f', 'n', denies}, {'f', 'w', needs}, {'f', 't', permits},
		{'n', 'f', denies}, {'n', 'n', denies}, {'n', 'w', needs}, {'n', 't', denies},
		{'w', 'f', denies}, {'w', 'n', needs}, {'w', 'w', needs}, {'w', 't', needs},
		{'t', 'f', denies}, {'t', 'n', denies}, {'t', 'w', denies}, {'t', 't', denies},
	} {
		a := telling("null", vNull())
		l := rules(deny(nil, whens[c.denied]), permit(nil, whens[c.permitted]))
		var wanted []string
		if c.want == needs {
			wanted = texts("missing")
		}
		isSaid(t, l, a, c.want, wanted...)
		slices.Reverse(l)
		isSaid(t, l, a, c.want, wanted...)
		isSaid(t, append(l, l...), a, c.want, wanted...)
		// Rules that are false, or don't hold, count for nothing.
		more := append(l, permit(nil, truth(0)), deny(nil, truth(0)), permit(texts("b")), deny(texts("b")), deny(texts("b", "c"), claim("other")), permit(texts("scope"), claim("other")), permit(nil, and(truth(0), claim("other"))))
		isSaid(t, more, a, c.want, wanted...)
		slices.Reverse(more)
		isSaid(t, more, a, c.want, wanted...)
	}
}

// A rule holds for just the scopes that it has, and for all, if it has none.
func TestP14_2Holds(t *testing.T) {
	names := strings.Fields("p o n m l k j i h g f e d c b a")
	for n := 1; n <= 16; n++ {
		l := rules(permit(names[:n]))
		for i, name := range names {
			want := denies
			if i < n {
				want = permits
			}
			isSaid(t, l, of(name, telling()), want)
			isSaid(t, append(rules(permit(nil)), deny(names[:n])), of(name, telling()), permits+denies-want)
			for _, near := range texts("", name+name, name+" ", " "+name, strings.ToUpper(name), name+"\x00", "sco") {
				isSaid(t, l, of(near, telling()), denies)
				isSaid(t, append(rules(permit(nil)), deny(names[:n])), of(near, telling()), permits)
			}
		}
	}
	for _, name := range texts("", "a", "A b", "\xff", times("x", 5000), "é") {
		isSaid(t, rules(permit(nil)), of(name, telling()), permits)
		isSaid(t, rules(permit([]string{}, []api.Expr{}...)), of(name, telling()), permits)
		isSaid(t, rules(permit(nil), deny([]string{}, []api.Expr{}...)), of(name, telling()), denies)
		isSaid(t, rules(permit(nil), deny(nil)), of(name, telling()), denies)
		isSaid(t, rules(permit(nil, claim("x"))), of(name, telling()), needs, "x")
	}
	whole := "a b"
	isSaid(t, rules(permit(texts("a", "b"))), of(whole, telling()), denies)
	isSaid(t, rules(permit(texts("aa"))), of("a", telling()), denies)
}

// Wanted are the claims of all rules that hold and of which the truth is none,
// but those that there is a member of, whatever it is.
func TestP14_2Wanted(t *testing.T) {
	l := rules(permit(nil, claim("d")), deny(nil, claim("c")), permit(nil, or(claim("b"), eq(claim("a"), claim("d")))), deny(texts("x"), claim("x")), permit(texts("x"), claim("y")), permit(nil, and(truth(0), claim("f"))), deny(nil, and(claim("g"), truth(0))))
	isSaid(t, l, telling(), needs, "a", "b", "c", "d")
	isSaid(t, l, of("x", telling()), needs, "a", "b", "c", "d", "x", "y")
	for _, v := range append(someWorths(), noWorths()...) {
		isSaid(t, l, telling("a", v), needs, "b", "c", "d")
		isSaid(t, rules(permit(nil, eq(claim("a"), claim("b")))), telling("a", v), needs, "b")
		isSaid(t, rules(permit(nil, eq(claim("b"), claim("a")))), telling("a", v, "c", vInt(1)), needs, "b")
		isSaid(t, rules(permit(nil, in(claim("b"), claim("a"), claim("a")))), telling("z", v, "a", v), needs, "b")
		if v.Kind != 1 {
			isSaid(t, rules(permit(nil, claim("a"))), telling("a", v), denies)
			isSaid(t, rules(permit(nil, not(claim("a")))), telling("a", v), denies)
			isSaid(t, rules(permit(nil), deny(nil, claim("a"))), telling("a", v), denies)
			isSaid(t, rules(permit(nil), deny(nil, and(claim("a"), claim("b")))), telling("a", v), needs, "b")
		}
	}
	// Of a name that is there several times, once.
	isSaid(t, rules(permit(nil, claim("a")), permit(nil, claim("a")), deny(nil, eq(claim("a"), claim("a")))), telling(), needs, "a")
	var all []api.Expr
	var names []string
	for n := range 500 {
		names = append(names, times("x", n%7)+string(rune(0x100+n)))
	}
	for _, name := range names {
		all = append(all, claim(name), claim(names[0]))
	}
	isSaid(t, rules(permit(nil, in(all...))), telling(), needs, slices.Sorted(slices.Values(names))...)
}

// Each of sixteen rules is asked.
func TestP14_2EachRule(t *testing.T) {
	for place := range 16 {
		l := slices.Repeat(rules(deny(nil, truth(0))), 16)
		isSaid(t, l, telling(), denies)
		l[place] = permit(nil)
		isSaid(t, l, telling(), permits)
		l[place] = permit(nil, claim("a"))
		isSaid(t, l, telling(), needs, "a")
		l = slices.Repeat(rules(permit(nil)), 16)
		l[place] = deny(nil)
		isSaid(t, l, telling(), denies)
		l[place] = deny(nil, claim("a"))
		isSaid(t, l, telling(), needs, "a")
	}
}

// A policy that isn't well formed is told so, whatever is asked.
func TestP14_2Errors(t *testing.T) {
	for _, a := range []api.Ask{{}, telling(), of("a", telling("a", vTruth(1)))} {
		for _, c := range []struct {
			r     api.Rule
			no    api.Errno
			place int
		}{
			{permit(texts("A")), api.ErrName, 50}, {deny(texts("")), api.ErrName, 50}, {permit(texts("a", "a")), api.ErrTwice, 50}, {permit(nil, at(60, variable("x"))), api.ErrName, 60}, {permit(nil, at(60, number(1))), api.ErrType, 60}, {permit(nil, at(60, variable("time"))), api.ErrType, 60}, {permit(nil, at(60, text("true"))), api.ErrType, 60}, {deny(texts("zzz"), at(60, or(truth(1), at(70, not(number(1)))))), api.ErrType, 70}, {deny(texts("zzz"), at(60, eq(at(70, claim("a")), at(80, variable("y"))))), api.ErrName, 80},
			{permit(texts("\n")), api.ErrArg, noPlace}, {permit(make([]string, 17)), api.ErrArg, noPlace}, {permit(nil, truth(1), truth(1)), api.ErrArg, noPlace}, {permit(nil, api.Expr{}), api.ErrArg, noPlace}, {deny(nil, truth(2)), api.ErrArg, noPlace}, {deny(nil, within(6, 0, 200, truth(1), truth(1))), api.ErrArg, noPlace}, {deny(nil, within(8, 0, 2000, truth(1), truth(1))), api.ErrArg, noPlace},
		} {
			wrong := ruleAt(50, c.r)
			isNotChecked(t, rules(wrong), a, c.no, c.place)
			for _, other := range rules(permit(nil), deny(nil), permit(nil, claim("b")), deny(texts("b"), claim("c"))) {
				isNotChecked(t, rules(other, wrong), a, c.no, c.place)
				isNotChecked(t, rules(wrong, other), a, c.no, c.place)
			}
			if c.no != api.ErrArg {
				isNotChecked(t, rules(wrong, ruleAt(9, permit(texts("B"))), ruleAt(10, deny(nil, at(11, variable("z"))))), a, c.no, c.place)
			}
		}
		isNotChecked(t, make([]api.Rule, 17), a, api.ErrArg, noPlace)
		isNotChecked(t, slices.Repeat(rules(deny(nil)), 1000), a, api.ErrArg, noPlace)
	}
}

func TestP14_2NoMemoryShared(t *testing.T) {
	name := times("ab", 40)
	l := rules(permit(nil, in(claim(name), claim(name[:9]), claim("c"))))
	_, wanted, err := eval.Decide(l, telling())
	if len(wanted) != 3 || err != nil {
		t.Fatalf("%q, %v", wanted, err)
	}
	for _, s := range wanted {
		if liesIn(s, name) {
			t.Errorf("%q lies within what was handed in", s)
		}
	}
	for i := range wanted {
		wanted[i] = "spoiled"
	}
	isSaid(t, l, telling(), needs, name[:9], name, "c")
}
