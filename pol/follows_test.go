package pol_test

import (
	"math/rand/v2"
	"strings"
	"testing"

	"warrant/api"
	"warrant/pol"
)

// follows tells a test that what Parse tells of s, if anything, must be told
// again of its Print, but for places; it tells whether it was.
func follows(t *testing.T, s string) bool {
	t.Helper()
	l, err := pol.Parse(s)
	if err != nil {
		return false
	}
	if !refRight(l) {
		isNotRight(t, l)
		return false
	}
	one, err := pol.Print(l)
	if err != nil || one != refPrint(l) {
		t.Errorf("Print of Parse(%.300q): %.300q, %v", s, one, err)
	}
	if len(one) > 2048 {
		isWrong(t, one, api.ErrLong, noPlace)
		return false
	}
	again, err := pol.Parse(one)
	if err != nil || !pol.Same(pol.Plain(again), pol.Plain(l)) || !isSame(unplaced(again), unplaced(l)) {
		t.Errorf("Parse(%.300q) of Print of Parse(%.300q): %.300s, %+v, not %.300s", one, s, show(again), err, show(l))
	}
	if twice, _ := pol.Print(again); twice != one {
		t.Errorf("Print of Parse(%.300q): %.300q", one, twice)
	}
	return true
}

func TestP12_4Known(t *testing.T) {
	for _, s := range []string{
		"", "permit;", "deny;permit;", `permit scope "read" when claim("age") >= 18 and not subject = owner;`, `deny scope "a","b",""when x;`, "permit when((((x))));", "permit when a>b;", "permit when (a>b)>=(c<d);",
		"permit when a or (b or c) and not (not d);", "permit when not(a = (not b));", "permit when (not(a = (not b))) in [c];", `permit when claim("\"\\") has "\\\"";`, "permit when (a in [b]) in [(c or d), e];", "permit when not not not x = -7;", "permit when " + times("(", 12) + "x or y" + times(")", 12) + " and z;",
		"permit when " + times("not ", 12) + "x = y;", "permit when " + times("(not ", 6) + "x" + times(")", 6) + ";", "permit when " + times("(x = (not ", 4) + "x" + times("))", 4) + ";", times("permit when x;", 16), times("deny scope \"a\", \"a\";#\n", 16), `permit scope "` + times("é", 500) + `";`,
		"permit scope " + times(`"a",`, 15) + `"a" when x;`,
	} {
		if !follows(t, s) {
			t.Errorf("%q isn't told again", s)
		}
	}
}

// A text can have more expressions within one another than is right, or more
// scopes; then there is no Print.
func TestP12_4NotRight(t *testing.T) {
	for _, said := range []string{" and x", " or x"} {
		for _, n := range []int{0, 1, 12, 13, 100, 198, 199, 200, 201, 202, 253, 254} {
			if follows(t, "permit when x"+times(said, n)+";") != (n < 200) {
				t.Errorf("%q, %d times", said, n)
			}
			if follows(t, "permit when not (x"+times(said, min(n, 250))+");") != (n < 199) {
				t.Errorf("%q, %d times in a not", said, n)
			}
		}
	}
	for n := 1; n <= 250; n++ {
		if follows(t, "permit scope "+strings.TrimSuffix(times(`"a",`, n), ",")+";") != (n <= 16) {
			t.Errorf("%d scopes", n)
		}
	}
}

// What was written without blanks may not fit with them.
func TestP12_4Longer(t *testing.T) {
	for s, fits := range map[string]bool{
		"permit when x in [" + strings.TrimSuffix(times("abcdef,", 200), ",") + "];":  true,
		"permit when x in [" + strings.TrimSuffix(times("abcdef,", 250), ",") + "];":  true,
		"permit when x in [" + strings.TrimSuffix(times("abcdefg,", 250), ",") + "];": false,
		"permit when x=1" + times("and\"aaaaaaaaaaaaaa\"=1", 81) + ";":                true,
		"permit when x=1" + times("and\"aaaaaaaaaaaaaa\"=1", 82) + ";":                false,
	} {
		l, err := pol.Parse(s)
		if err != nil || follows(t, s) != fits {
			t.Errorf("Parse(%.100q): %v, %.300s", s, err, show(l))
		}
	}
}

// However a policy is written, it is the same, and so is its one text.
func TestP12_4HoweverWritten(t *testing.T) {
	chance := rand.New(rand.NewPCG(12, 40))
	told := 0
	for range 8000 {
		l := anyRules(chance, 4, chance.IntN(5))
		one := refPrint(l)
		for range 2 {
			s := anyJoined(chance, anyTokens(chance, l))
			if !follows(t, s) {
				continue
			}
			told++
			got, _ := pol.Parse(s)
			if text, err := pol.Print(got); err != nil || text != one {
				t.Errorf("Print of Parse(%.300q): %.300q, %v, not %.300q", s, text, err, one)
			}
		}
		if len(one) < 2048 {
			follows(t, one)
		}
	}
	if told < 10000 {
		t.Errorf("%d were told again", told)
	}
}

// What is read of texts of any tokens.
func TestP12_4Spoiled(t *testing.T) {
	chance := rand.New(rand.NewPCG(12, 41))
	told := 0
	for range 30000 {
		l := anyTokens(chance, anyRules(chance, 2, chance.IntN(4)))
		for range chance.IntN(3) {
			l = anySpoiled(chance, l)
		}
		if follows(t, anyJoined(chance, l)) {
			told++
		}
	}
	if told < 8000 {
		t.Errorf("%d were told again", told)
	}
}

// Of every text of a few tokens.
func TestP12_4Small(t *testing.T) {
	few := texts("x", "7", "not", "and", "or", "=", ">", "in", "[", "]", "(", ")")
	told := 0
	var walk func(s string, more int)
	walk = func(s string, more int) {
		for _, tok := range few {
			longer := s + " " + tok
			if follows(t, longer+" ;") {
				told++
			}
			if _, no, place := refParse(longer); more > 1 && no == api.ErrParse && place == len(longer) {
				walk(longer, more-1)
			}
		}
	}
	walk("permit when", 6)
	if told < 500 {
		t.Errorf("%d were told again", told)
	}
}
