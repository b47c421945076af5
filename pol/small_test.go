package pol_test

import (
	"math/rand/v2"
	"testing"

	"warrant/api"
	"warrant/pol"
)

// walk asks about all texts of tokens of which the beginning may stand, up to as
// many of them; it tells how many were right.
func walk(t *testing.T, ahead string, toks []string, more int) int {
	t.Helper()
	right := 0
	for _, tok := range toks {
		s := ahead + " " + tok
		asReference(t, s)
		_, no, place := refParse(s)
		if no == 0 {
			right++
		}
		if more > 1 && (no == 0 || place == len(s)) {
			right += walk(t, s, toks, more-1)
		}
	}
	return right
}

func TestP12_1SmallRules(t *testing.T) {
	few := texts("permit", "deny", "scope", "when", `"a"`, ",", ";", "x", "not")
	if right := walk(t, "", few, 8); right < 300 {
		t.Errorf("%d were right", right)
	}
}

func TestP12_1SmallExpressions(t *testing.T) {
	for ahead, few := range map[string][]string{
		"permit when":             texts("x", "not", "and", "or", "=", "(", ")", ";"),
		"permit when not (a":      texts("x", "7", "in", "[", "]", ",", "(", ")", ";", "and"),
		"deny when a in [b,":      texts("x", "true", "claim", `"a"`, "(", ")", ",", "]", ";"),
		"permit when x":           texts("has", ">", "<=", "claim", "(", `"a"`, ")", "or", "-7", ";"),
		"permit when a or b and ": texts("x", "false", "not", "!=", ">=", "(", ")", "or", ";"),
	} {
		if right := walk(t, ahead, few, 7); right < 20 {
			t.Errorf("%q: %d were right", ahead, right)
		}
	}
}

// All beginnings, with each token behind them.
func TestP12_1SmallAll(t *testing.T) {
	if right := walk(t, "permit when", append(texts("!", "A", "#"), oneOf...), 4); right < 300 {
		t.Errorf("%d were right", right)
	}
}

// Right rules, written in any way, are read as they were.
func TestP12_1Any(t *testing.T) {
	chance := rand.New(rand.NewPCG(12, 1))
	read := 0
	for range 20000 {
		l := anyRules(chance, 4, chance.IntN(5))
		s := anyJoined(chance, anyTokens(chance, l))
		if _, no, _ := refParse(s); no == api.ErrLong || no == api.ErrMany {
			continue
		}
		read++
		isRead(t, s, l...)
		asReference(t, s)
	}
	if read < 15000 {
		t.Errorf("%d were read", read)
	}
}

// What is spoiled is as the reference says.
func TestP12_1Spoiled(t *testing.T) {
	chance := rand.New(rand.NewPCG(12, 2))
	told := map[api.Errno]int{}
	for range 40000 {
		l := anyTokens(chance, anyRules(chance, 3, chance.IntN(4)))
		for range 1 + chance.IntN(2) {
			l = anySpoiled(chance, l)
		}
		s := anyJoined(chance, l)
		asReference(t, s)
		told[refNo(s)]++
	}
	for _, no := range []api.Errno{0, api.ErrParse} {
		if told[no] < 3000 {
			t.Errorf("too few of %d: %v", no, told)
		}
	}
}

// Texts of any tokens.
func TestP12_1AnyTokens(t *testing.T) {
	chance := rand.New(rand.NewPCG(12, 3))
	for range 40000 {
		s := "permit when x"
		if chance.IntN(2) == 0 {
			s = anyOf(chance, "permit", "", "permit when (", "permit when not", "permit when x in [", `permit scope "a"`)
		}
		for range chance.IntN(10) {
			s += " " + anyOf(chance, oneOf...)
		}
		asReference(t, s)
	}
}

func TestP12_1NoMemoryShared(t *testing.T) {
	chance := rand.New(rand.NewPCG(12, 4))
	for range 2000 {
		s := anyJoined(chance, anyTokens(chance, anyRules(chance, 4, 3)))
		l, err := pol.Parse(s)
		if err != nil {
			continue
		}
		was := show(l)
		again, _ := pol.Parse(s)
		spoil(t, l, s)
		if show(again) != was {
			t.Errorf("Parse(%q) shares memory", s)
		}
	}
}

// spoil changes all that is in rules, list by list: what is changed already mustn't
// be met again, and no text may lie in memory.
func spoil(t *testing.T, l []api.Rule, memory string) {
	t.Helper()
	for _, r := range l {
		for i, s := range r.Scopes {
			if s == "changed" {
				t.Error("a scope stands in two lists")
			}
			isLong(t, s, memory)
			r.Scopes[i] = "changed"
		}
		spoilExprs(t, r.When, memory)
	}
}

// spoilExprs changes all that is in expressions, and behind them.
func spoilExprs(t *testing.T, l []api.Expr, memory string) {
	t.Helper()
	for _, e := range l {
		if e.Op == -1 {
			t.Error("an expression stands in two lists")
		}
		isLong(t, e.S, memory)
		spoilExprs(t, e.L, memory)
	}
	l = l[:cap(l)]
	for i := range l {
		l[i] = api.Expr{Op: -1}
	}
}

// isLong tells a test that a text, if it has more than one byte, mustn't lie in
// memory: the library has those of one.
func isLong(t *testing.T, s, memory string) {
	t.Helper()
	if len(s) > 1 {
		isOutside(t, s, memory)
	}
}
