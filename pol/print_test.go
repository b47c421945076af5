package pol_test

import (
	"math/rand/v2"
	"strings"
	"testing"

	"warrant/api"
	"warrant/lex"
	"warrant/pol"
)

func TestP12_2PrintKnown(t *testing.T) {
	a, b, c := variable("a"), variable("b"), variable("c")
	isPrinted(t, rules(permit(texts("read"), and(le(number(18), claim("age")), not(eq(variable("subject"), variable("owner")))))), `permit scope "read" when 18 <= claim("age") and not subject = owner;`)
	isPrinted(t, rules(permit(nil)), "permit;")
	isPrinted(t, rules(deny(nil)), "deny;")
	isPrinted(t, rules(permit(nil), deny(nil), permit(nil)), "permit;\ndeny;\npermit;")
	isPrinted(t, rules(deny(texts("a"))), `deny scope "a";`)
	isPrinted(t, rules(permit(texts("b", "a", "b", ""))), `permit scope "b", "a", "b", "";`)
	isPrinted(t, rules(deny(texts(`"`, `\`, `a"\"b`))), `deny scope "\"", "\\", "a\"\\\"b";`)
	isPrinted(t, rules(permit(texts("a", "b"), a), deny(nil, b)), "permit scope \"a\", \"b\" when a;\ndeny when b;")
	for want, e := range map[string]api.Expr{
		"true": truth(1), "false": truth(0), "0": number(0), "-7": number(-7), "9007199254740991": number(maxInt), "-9007199254740991": number(-maxInt), "1": number(1), "a": a, "scope": variable("scope"),
		`""`: text(""), `"a b"`: text("a b"), `"\"\\"`: text(`"\`), `"é€"`: text("é€"), `claim("a")`: claim("a"), `claim("")`: claim(""), `claim("\"\\)")`: claim(`"\)`),
		"not a": not(a), "a and b": and(a, b), "a or b": or(a, b), "a = b": eq(a, b), "a != b": ne(a, b), "a < b": lt(a, b), "a <= b": le(a, b), "a has b": has(a, b), "a in [b]": in(a, b), "a in [b, c]": in(a, b, c), "a in [b, c, 1, true]": in(a, b, c, number(1), truth(1)),
		"not not a": not(not(a)), "not a = b": not(eq(a, b)), "(not a) = b": eq(not(a), b), "a = (not b)": eq(a, not(b)), "not (a and b)": not(and(a, b)), "not (a or b)": not(or(a, b)), "not a and b": and(not(a), b), "a or not b": or(a, not(b)),
		"a or b or c": or(or(a, b), c), "a or (b or c)": or(a, or(b, c)), "a and b and c": and(and(a, b), c), "a and (b and c)": and(a, and(b, c)), "a and b or c": or(and(a, b), c), "a or b and c": or(a, and(b, c)), "(a or b) and c": and(or(a, b), c), "a and (b or c)": and(a, or(b, c)),
		"(a = b) = c": eq(eq(a, b), c), "a = (b = c)": eq(a, eq(b, c)), "a = b and b = c": and(eq(a, b), eq(b, c)), "(a and b) < (b or c)": lt(and(a, b), or(b, c)), "(a in [b]) in [(c in [a])]": in(in(a, b), in(c, a)),
		"(a or b) in [(not c), (a and b), b]": in(or(a, b), not(c), and(a, b), b), "not a in [b]": not(in(a, b)), "(not a) in [b]": in(not(a), b), `claim("a") has (a = b)`: has(claim("a"), eq(a, b)), "not not (not a) = b": not(not(eq(not(a), b))),
	} {
		isPrinted(t, when(e), "permit when "+want+";")
		isPrinted(t, rules(deny(texts("x"), e)), `deny scope "x" when `+want+";")
	}
}

// Each op as each part of each other: within ( ) only where it binds less than
// where it stands asks.
func TestP12_2PrintBinding(t *testing.T) {
	a, b, c := variable("a"), variable("b"), variable("c")
	// The levels are those of the words: or 1, and 2, not 3, two operands 4, an
	// operand 5.
	ops := map[int]struct {
		level int
		s     string
	}{1: {5, "false"}, 2: {5, "0"}, 3: {5, `""`}, 4: {5, "a"}, 5: {5, `claim("")`}, 6: {3, "not a"}, 7: {2, "a and b"}, 8: {1, "a or b"}, 9: {4, "a = b"}, 10: {4, "a != b"}, 11: {4, "a < b"}, 12: {4, "a <= b"}, 13: {4, "a in [b]"}, 14: {4, "a has b"}}
	asked := map[int][2]int{6: {3, 0}, 7: {2, 3}, 8: {1, 2}, 9: {5, 5}, 10: {5, 5}, 11: {5, 5}, 12: {5, 5}, 13: {5, 5}, 14: {5, 5}}
	for op, inner := range ops {
		e := api.Expr{Op: op}
		switch {
		case op == 4:
			e = a
		case op == 6:
			e.L = exprs(a)
		case op > 6:
			e.L = exprs(a, b)
		}
		isPrinted(t, when(e), "permit when "+inner.s+";")
		for outer, levels := range asked {
			for part := range 2 {
				if outer == 6 && part == 1 {
					continue
				}
				whole := within(outer, part, 1, e)
				s := inner.s
				if inner.level < levels[part] {
					s = "(" + s + ")"
				}
				// The other part is made one that can be told apart.
				want := "not " + s
				if outer != 6 {
					whole.L[1-part] = c
					want = swap(ops[outer].s, part, s)
				}
				isPrinted(t, when(whole), "permit when "+want+";")
			}
		}
	}
}

// swap is an expression of a and b with s in the place of one, c in that of the
// other.
func swap(of string, part int, s string) string {
	of = strings.TrimPrefix(of, "a")
	b := strings.LastIndex(of, "b")
	if part == 0 {
		return s + of[:b] + "c" + of[b+1:]
	}
	return "c" + of[:b] + s + of[b+1:]
}

func TestP12_2PrintAny(t *testing.T) {
	chance := rand.New(rand.NewPCG(12, 21))
	for range 20000 {
		l := anyRules(chance, 4, chance.IntN(6))
		was := show(l)
		isPrinted(t, l, refPrint(l))
		if show(l) != was {
			t.Errorf("Print changed %s into %s", was, show(l))
		}
	}
}

// Without any one pair of ( ) of a text it wouldn't be the same.
func TestP12_2PrintNoMoreThanMust(t *testing.T) {
	chance := rand.New(rand.NewPCG(12, 22))
	pairs := 0
	for range 4000 {
		l := when(anyExpr(chance, 4))
		s, err := pol.Print(l)
		toks, lexed := lex.Scan(s)
		if err != nil || lexed != nil {
			continue
		}
		var open []int
		for i, tok := range toks {
			if tok.Kind == api.TSign && tok.S == "(" {
				open = append(open, i)
			}
			if tok.Kind == api.TSign && tok.S == ")" {
				first := open[len(open)-1]
				open = open[:len(open)-1]
				if toks[first-1].Kind == api.TWord && toks[first-1].S == "claim" {
					continue
				}
				pairs++
				from, to := toks[first].Pos, tok.Pos
				if other, err := pol.Parse(s[:from] + " " + s[from+1:to] + " " + s[to+1:]); err == nil && isSame(unplaced(other), unplaced(l)) {
					t.Errorf("%q: a pair too much at %d", s, from)
				}
			}
		}
	}
	if pairs < 4000 {
		t.Errorf("%d pairs", pairs)
	}
}

// A text may be longer than one that is read.
func TestP12_2PrintLong(t *testing.T) {
	isPrinted(t, rules(permit(texts(times("a", 5000)))), `permit scope "`+times("a", 5000)+`";`)
	isPrinted(t, when(text(times(`"`, 5000))), `permit when "`+times(`\"`, 5000)+`";`)
	items := make([]api.Expr, 100000)
	for i := range items {
		items[i] = variable("x")
	}
	isPrinted(t, when(in(items...)), "permit when x in [x"+times(", x", 99998)+"];")
	whole := variable("x")
	for range 13 {
		whole = and(whole, whole)
	}
	isPrinted(t, when(whole), refPrint(when(whole)))
}

func TestP12_2PrintNoMemoryShared(t *testing.T) {
	long := times("ab_", 10)
	for _, l := range [][]api.Rule{when(variable(long)), when(text(long)), when(claim(long)), rules(permit(texts(long)))} {
		s, _ := pol.Print(l)
		isOutside(t, s, long)
		for _, e := range l[0].When {
			isOutside(t, s, e.S)
		}
	}
}
