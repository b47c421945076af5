package scope_test

import (
	"errors"
	"math/rand/v2"
	"regexp"
	"slices"
	"sort"
	"strings"
	"testing"

	"warrant/api"
	"warrant/scope"
)

// ofNames are all the bytes that names are made of.
const ofNames = "abcdefghijklmnopqrstuvwxyz0123456789.:_-"

var namePattern = regexp.MustCompile(`\A[a-z0-9.:_-]{1,32}\z`)

// strange are texts that are no names, some of them near one.
var strange = []string{
	"", " ", "  ", "A", "Read", "reaD", "read write", " read", "read ", "read\n", "\nread", "\x00", "a\x00",
	"a,b", "a/b", "a;b", "a+b", "a*b", "a=b", "a&b", "a%20b", "a\tb", "~", "`", "{", "@", "[", "!", "$", "\"a\"", "\\",
	"\u00e9", "a\u00e9", "\u20ac", "\uff41", "\u0430", "\u0661", "\u2013", "\u00a0", "\xff", "a\x80", "\xe2\x82", "\U0001f600",
	strings.Repeat("a", 33), strings.Repeat("a", 64), strings.Repeat("a", 1<<8+1), strings.Repeat("a", 1<<16+1), strings.Repeat("-", 1<<20),
}

// sixteen are as many scopes as may be, with one more that may stand ahead of
// them, between any of them, or behind them.
func sixteen() []string { return strings.Split("b d f h j l n p r t v x z zb zd zf", " ") }

// isError tells a test that err must be just ErrScope, at no place.
func isError(t *testing.T, of string, err error) {
	t.Helper()
	var no api.Errno
	if !errors.Is(err, api.ErrScope) || !errors.As(err, &no) || no != api.ErrScope {
		t.Errorf("%s: error %v (%d), not %d", of, err, no, api.ErrScope)
	}
	var at *api.At
	if errors.As(err, &at) {
		t.Errorf("%s: place %d, and should have none", of, at.Pos)
	}
}

// isParsed tells a test that Parse of s must be want.
func isParsed(t *testing.T, s string, want []string) {
	t.Helper()
	if l, err := scope.Parse(s); err != nil || !slices.Equal(l, want) {
		t.Errorf("Parse(%.200q): %.200q, %v, not %.200q", s, l, err, want)
	}
}

// isWrong tells a test that Parse of s must tell just ErrScope.
func isWrong(t *testing.T, s string) {
	t.Helper()
	l, err := scope.Parse(s)
	if len(l) != 0 {
		t.Errorf("Parse(%.200q): %.200q beside an error", s, l)
	}
	isError(t, "Parse("+s[:min(len(s), 200)]+")", err)
}

// isRight tells a test that Check of l must be nil.
func isRight(t *testing.T, l []string) {
	t.Helper()
	if err := scope.Check(l); err != nil {
		t.Errorf("Check(%.400q): %v", l, err)
	}
}

// isNotRight tells a test that Check of l must be just ErrScope.
func isNotRight(t *testing.T, l []string) {
	t.Helper()
	of := strings.Join(l, ",")
	isError(t, "Check("+of[:min(len(of), 200)]+")", scope.Check(l))
}

// isSame tells a test that a call must tell the names of want.
func isSame(t *testing.T, of string, got, want []string) {
	t.Helper()
	if !slices.Equal(got, want) {
		t.Errorf("%s: %.400q, not %.400q", of, got, want)
	}
}

// refSet tells a list's items, rising, none twice: each is put ahead of the
// first that is greater.
func refSet(l []string) []string {
	var out []string
	for _, s := range l {
		i := 0
		for i < len(out) && strings.Compare(out[i], s) < 0 {
			i++
		}
		if i == len(out) || out[i] != s {
			out = append(out[:i], append([]string{s}, out[i:]...)...)
		}
	}
	return out
}

// refHas tells whether s is in l.
func refHas(l []string, s string) bool {
	for _, one := range l {
		if one == s {
			return true
		}
	}
	return false
}

// refPart tells the items of a that are in b, or those that aren't.
func refPart(a, b []string, isIn bool) []string {
	var out []string
	for _, s := range a {
		if refHas(b, s) == isIn {
			out = append(out, s)
		}
	}
	return refSet(out)
}

// refCheck tells whether l are scopes, by the words alone.
func refCheck(l []string) bool {
	seen := map[string]int{}
	for _, s := range l {
		if !namePattern.MatchString(s) {
			return false
		}
		seen[s]++
	}
	return len(l) <= 16 && len(seen) == len(l) && sort.StringsAreSorted(l)
}

// refParse tells what Parse must, by the words alone.
func refParse(s string) ([]string, bool) {
	if s == "" {
		return nil, true
	}
	parts := strings.Split(s, " ")
	for _, part := range parts {
		if !namePattern.MatchString(part) {
			return nil, false
		}
	}
	l := refSet(parts)
	return l, len(l) <= 16
}

// asReference tells a test that Parse of s must be as the reference, and Check
// of its parts, too.
func asReference(t *testing.T, s string) {
	t.Helper()
	if l, right := refParse(s); right {
		isParsed(t, s, l)
		isRight(t, l)
	} else {
		isWrong(t, s)
	}
	if l := strings.Split(s, " "); refCheck(l) {
		isRight(t, l)
	} else {
		isNotRight(t, l)
	}
}

// setsAsReference tells a test that what is asked of two lists must be as the
// references.
func setsAsReference(t *testing.T, a, b []string) {
	t.Helper()
	oldA, oldB := slices.Clone(a), slices.Clone(b)
	both, less := refPart(a, b, true), refPart(a, b, false)
	isSame(t, "Both", scope.Both(a, b), both)
	isSame(t, "Less", scope.Less(a, b), less)
	isSame(t, "All", scope.All(a, b), refSet(append(slices.Clone(a), b...)))
	if got := scope.Within(a, b); got != (len(less) == 0) {
		t.Errorf("Within(%q, %q): %v", a, b, got)
	}
	for _, name := range append(slices.Clone(a), b...) {
		if got := scope.Has(a, name); got != refHas(a, name) {
			t.Errorf("Has(%q, %q): %v", a, name, got)
		}
	}
	if !slices.Equal(a, oldA) || !slices.Equal(b, oldB) {
		t.Errorf("of %q and %q came %q and %q", oldA, oldB, a, b)
	}
}

// anyName is a right name.
func anyName(chance *rand.Rand) string {
	name := ""
	for range 1 + chance.IntN(3) {
		name += string(ofNames[chance.IntN(len(ofNames))])
	}
	if chance.IntN(8) == 0 {
		name += strings.Repeat(name[:1], 32-len(name))
	}
	return name
}

// anyScopes are scopes, at most as many.
func anyScopes(chance *rand.Rand, most int) []string {
	var l []string
	for range chance.IntN(most + 1) {
		l = append(l, anyName(chance))
	}
	return refSet(l)
}

// mixed tells the items of l in any order, some of them again.
func mixed(chance *rand.Rand, l []string) []string {
	out := slices.Clone(l)
	for range len(l) {
		if chance.IntN(3) == 0 {
			out = append(out, l[chance.IntN(len(l))])
		}
	}
	chance.Shuffle(len(out), func(i, j int) { out[i], out[j] = out[j], out[i] })
	return out
}
