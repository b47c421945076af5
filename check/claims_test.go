package check_test

import (
	"maps"
	"math/rand/v2"
	"slices"
	"testing"
	"unsafe"

	"warrant/api"
	"warrant/check"
)

func TestP13_2ClaimsKnown(t *testing.T) {
	areClaims(t, nil)
	areClaims(t, rules())
	areClaims(t, make([]api.Rule, 20))
	areClaims(t, rules(permit(1, texts("a", "b"), eq(text("c"), variable("d")))))
	areClaims(t, rules(permit(1, nil, claim("a"))), "a")
	areClaims(t, rules(permit(1, nil, claim(""))), "")
	areClaims(t, rules(permit(1, nil, eq(claim("b"), claim("a")))), "a", "b")
	areClaims(t, rules(permit(1, nil, eq(claim("a"), claim("a")))), "a")
	areClaims(t, rules(permit(1, nil, not(claim("b"))), deny(2, nil, claim("c")), permit(3, nil), permit(4, nil, has(claim("a"), claim("b")))), "a", "b", "c")
	areClaims(t, rules(permit(1, nil, in(claim("d"), claim("c"), text("x"), claim("b"), claim("a"), claim("b")))), "a", "b", "c", "d")
	// Rising byte by byte.
	areClaims(t, rules(permit(1, nil, in(claim("é"), claim("z"), claim("Z"), claim("aa"), claim("a"), claim("10"), claim("9"), claim(" "), claim("\U0010ffff"), claim("\uffff")))), " ", "10", "9", "Z", "a", "aa", "z", "é", "\uffff", "\U0010ffff")
	for op := 7; op <= 14; op++ {
		areClaims(t, rules(permit(1, nil, ofOp(op, claim("q"), not(claim("p"))))), "p", "q")
	}
}

// Of any rules, right or not, well formed or not.
func TestP13_2ClaimsAny(t *testing.T) {
	areClaims(t, rules(permit(1, nil, claim("b"), claim("a"), not(claim("c")))), "a", "b", "c")
	areClaims(t, slices.Repeat(rules(permit(1, make([]string, 40), claim("a"))), 1000), "a")
	areClaims(t, rules(permit(1, nil, claim("\xff"), claim("\n"), claim(times("x", 100000)))), "\n", times("x", 100000), "\xff")
	areClaims(t, rules(permit(1, nil, api.Expr{Op: 5, S: "b", N: 9, L: exprs(claim("a"), text("c"))})), "a", "b")
	for _, op := range []int{-1, 0, 1, 2, 3, 4, 6, 15, 99} {
		areClaims(t, rules(permit(1, nil, api.Expr{Op: op, S: "no", L: exprs(claim("b"), api.Expr{Op: op, S: "nor", L: exprs(claim("a"), claim("b"))})})), "a", "b")
		areClaims(t, rules(permit(1, nil, api.Expr{Op: op, S: "no"})))
	}
	areClaims(t, rules(permit(1, nil, lt(text("a"), claim("x")), variable("zzz"), eq(number(1), claim("")))), "", "x")
	for op := 6; op <= 14; op++ {
		for part := range 2 {
			if op == 6 && part == 1 {
				continue // PNot has but one
			}
			want := []string{"a", "b", "c"}
			switch {
			case op == 6:
				want = want[2:]
			case part == 0:
				want = want[1:]
			default:
				want = []string{"a", "c"}
			}
			if got := check.Claims(rules(permit(1, nil, within(op, part, 60000, claim("c"))))); !slices.Equal(got, want) {
				t.Errorf("Claims of what is deep: %q, not %q", got, want)
			}
		}
	}
	var many []api.Expr
	var names []string
	for n := range 2000 {
		names = append(names, string(rune('a'+n%26))+string(rune(0x100+n)))
	}
	for _, name := range names {
		many = append(many, claim(name), claim(names[0]))
	}
	areClaims(t, rules(permit(1, nil, in(many...))), slices.Sorted(slices.Values(names))...)
}

// gathered are the names of all claims in expressions.
func gathered(l []api.Expr, names map[string]int) {
	for _, e := range l {
		if e.Op == 5 {
			names[e.S]++
		}
		gathered(e.L, names)
	}
}

func TestP13_2ClaimsAsReference(t *testing.T) {
	chance := rand.New(rand.NewPCG(13, 2))
	for range 3000 {
		l := anyRules(chance, 5, chance.IntN(5))
		for range chance.IntN(3) {
			bend(chance, l)
		}
		names := map[string]int{}
		for _, r := range l {
			gathered(r.When, names)
		}
		areClaims(t, l, slices.Sorted(maps.Keys(names))...)
	}
}

// What is told is the caller's.
func TestP13_2ClaimsNoMemoryShared(t *testing.T) {
	name := times("ab", 20)
	l := rules(permit(1, nil, in(claim(name), claim("c"), claim(name[:7]))))
	got := check.Claims(l)
	begin := uintptr(unsafe.Pointer(unsafe.StringData(name)))
	for _, s := range got {
		if place := uintptr(unsafe.Pointer(unsafe.StringData(s))); begin <= place && place < begin+uintptr(len(name)) {
			t.Errorf("%q lies within what was handed in", s)
		}
	}
	for i := range got {
		got[i] = "spoiled"
	}
	areClaims(t, l, name[:7], name, "c")
}
