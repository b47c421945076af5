package pol_test

import (
	"math/rand/v2"
	"strings"

	"warrant/api"
)

// oneOf are words and signs of all kinds that policies are made of, and some
// that they aren't.
var oneOf = []string{"permit", "deny", "scope", "when", "or", "and", "not", "in", "has", "true", "false", "claim", "subject", "x", "(", ")", "[", "]", ",", ";", "=", "!=", "<", "<=", ">", ">=", `"a"`, `"("`, `"not"`, "0", "-7"}

// anyLetters is a text of a few letters of all sizes that may be quoted.
func anyLetters(chance *rand.Rand) string {
	letters := []rune("aZz_09 \"\\\"\\#;(-!=\x7f\u0080\u00e9\u07ff\u0800\u20ac\u2028\ufffd\U00010000\U0010ffff")
	s := ""
	for range chance.IntN(6) {
		s += string(letters[chance.IntN(len(letters))])
	}
	return s
}

// anyLeaf is an expression without parts.
func anyLeaf(chance *rand.Rand) api.Expr {
	switch chance.IntN(6) {
	case 0:
		return truth(chance.Int64N(2))
	case 1:
		return number(chance.Int64N(maxInt+1) >> chance.IntN(54) * (1 - 2*chance.Int64N(2)))
	case 2:
		return text(anyLetters(chance))
	case 3:
		return claim(anyLetters(chance))
	}
	return variable(anyOf(chance, "subject", "client", "owner", "resource", "scope", "time", "a", "_", "nota", "andor", "permit_", "claims", "truefalse", "hash", times("z", 32)))
}

// anyExpr is a right expression, with at most as many more within one another.
func anyExpr(chance *rand.Rand, deep int) api.Expr {
	if deep == 0 || chance.IntN(5) == 0 {
		return anyLeaf(chance)
	}
	op := anyOf(chance, 6, 6, 7, 7, 7, 8, 8, 8, 9, 10, 11, 12, 13, 14)
	count := 2
	switch op {
	case 6:
		count = 1
	case 13:
		count += chance.IntN(3)
	}
	var parts []api.Expr
	for range count {
		parts = append(parts, anyExpr(chance, deep-1))
	}
	return api.Expr{Op: op, L: parts}
}

// anyRules are at most as many right rules.
func anyRules(chance *rand.Rand, most, deep int) []api.Rule {
	var l []api.Rule
	for range chance.IntN(most + 1) {
		r := api.Rule{Deny: chance.IntN(2) == 0}
		for chance.IntN(2) == 0 && len(r.Scopes) < 16 {
			r.Scopes = append(r.Scopes, anyLetters(chance))
		}
		if chance.IntN(4) > 0 {
			r.When = exprs(anyExpr(chance, deep))
		}
		l = append(l, r)
	}
	return l
}

// anyWriting are the tokens of an expression where a level of binding is asked,
// with signs turned round and with more ( ) than there must be, at most one
// more around each.
func anyWriting(chance *rand.Rand, e api.Expr, asked int) []string {
	write := func(i, asked int) []string { return anyWriting(chance, e.L[i], asked) }
	var s []string
	switch e.Op {
	case 5:
		s = texts("claim", "(", refQuote(e.S), ")")
	case 6:
		s = append(texts("not"), write(0, 3)...)
	case 7:
		s = append(append(write(0, 2), "and"), write(1, 3)...)
	case 8:
		s = append(append(write(0, 1), "or"), write(1, 2)...)
	case 13:
		s = append(write(0, 5), "in")
		for i := range e.L[1:] {
			s = append(append(s, []string{"[", ","}[min(i, 1)]), write(i+1, 5)...)
		}
		s = append(s, "]")
	case 11, 12:
		if chance.IntN(2) == 0 {
			s = append(append(write(1, 5), map[int]string{11: ">", 12: ">="}[e.Op]), write(0, 5)...)
			break
		}
		fallthrough
	case 9, 10, 14:
		s = append(append(write(0, 5), refSaid[e.Op]), write(1, 5)...)
	default:
		s = texts(refText(e, 5))
	}
	if refLevel(e.Op) < asked || chance.IntN(6) == 0 {
		s = append(append(texts("("), s...), ")")
	}
	return s
}

// anyTokens are the tokens of rules, in any way of writing.
func anyTokens(chance *rand.Rand, l []api.Rule) []string {
	var s []string
	for _, r := range l {
		s = append(s, map[bool]string{false: "permit", true: "deny"}[r.Deny])
		for i, scope := range r.Scopes {
			s = append(s, []string{"scope", ","}[min(i, 1)], refQuote(scope))
		}
		for _, e := range r.When {
			s = append(append(s, "when"), anyWriting(chance, e, 1)...)
		}
		s = append(s, ";")
	}
	return s
}

// anyGap are blanks and remarks, at least one of them.
func anyGap(chance *rand.Rand) string {
	s := ""
	for range 1 + chance.IntN(2) {
		s += anyOf(chance, " ", " ", " ", " ", "\n", "\t", "\r\n", "#\n", "# not (a;\n", "#\"\xff\n")
	}
	return s
}

// anyJoined are tokens with gaps between, where there must be one, or perhaps.
func anyJoined(chance *rand.Rand, l []string) string {
	var s strings.Builder
	last := ""
	for _, tok := range l {
		if mustPart(last, tok) || chance.IntN(2) == 0 {
			s.WriteString(anyGap(chance))
		}
		s.WriteString(tok)
		last = tok
	}
	return s.String() + anyOf(chance, "", "", " ", "\n", "# x", "#\n")
}

// mustPart tells whether tokens would become others, if they weren't parted.
func mustPart(a, b string) bool {
	const long = "abcdefghijklmnopqrstuvwxyz_0123456789"
	if a == "" {
		return false
	}
	return strings.ContainsAny(a[len(a)-1:], long) && strings.ContainsAny(b[:1], long) || strings.ContainsAny(a, "<>!") && b[0] == '='
}

// anySpoiled are tokens with something done to them, perhaps such that they are
// right again.
func anySpoiled(chance *rand.Rand, l []string) []string {
	place := chance.IntN(len(l) + 1)
	end := min(len(l), place+1)
	before, behind := append(texts(), l[:place]...), append(texts(), l[place:]...)
	switch chance.IntN(6) {
	case 0:
		return append(append(before, anyOf(chance, oneOf...)), l[end:]...)
	case 1:
		return append(before, l[end:]...)
	case 2:
		return before
	case 3:
		return append(behind, before...)
	case 4:
		return append(append(before, l[place:end]...), behind...)
	}
	return append(append(before, anyOf(chance, oneOf...)), behind...)
}
