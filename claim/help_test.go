package claim_test

import (
	stdjson "encoding/json"
	"errors"
	"fmt"
	"math/rand/v2"
	"regexp"
	"slices"
	"strings"
	"testing"
	"unsafe"

	"warrant/api"
	"warrant/claim"
	"warrant/json"
)

// noPlace is what an error is told by that has no place.
const noPlace = -1

// lastTime is the greatest that a token may say.
const lastTime = 1 << 41

// allErrnos are the errors that this layer, or one of those that it calls, may
// tell.
var allErrnos = []api.Errno{
	api.ErrArg, api.ErrLong, api.ErrUtf, api.ErrDec, api.ErrOver, api.ErrJson, api.ErrDeep, api.ErrTwice, api.ErrMany,
	api.ErrField, api.ErrScope, api.ErrClaim,
}

var (
	namePattern    = regexp.MustCompile(`\A[a-z0-9.:_-]{1,32}\z`)
	visiblePattern = regexp.MustCompile(`\A[!-~]{1,64}\z`)
)

// names are right ones.
var names = []string{"a", "alice", "read", "0", "-", ".", ":", "_", "a.b:c_d-e", "abcdefghijklmnopqrstuvwxyz012345", "6789.:_-", strings.Repeat("z", 31), strings.Repeat("0", 32)}

// noNames are texts that are no names, some of them near one. All are UTF-8.
var noNames = []string{
	"", " ", "A", "Alice", "alicE", "a b", " a", "a ", "a\n", "\na", "\x00", "a\x00", "a,b", "a/b", "a+b", "a=b", "a%31", "~", "`", "{", "@", "\"a\"", "\\",
	"\u00e9", "\u20ac", "\uff41", "\u0430", "\U0001f600", strings.Repeat("a", 33), strings.Repeat("a", 64), strings.Repeat("a", 257), strings.Repeat("-", 1000),
}

func null() api.Json              { return api.Json{} }
func truth(n int64) api.Json      { return api.Json{Kind: api.JBool, N: n} }
func number(n int64) api.Json     { return api.Json{Kind: api.JInt, N: n} }
func text(s string) api.Json      { return api.Json{Kind: api.JText, S: s} }
func list(l ...api.Json) api.Json { return api.Json{Kind: api.JList, L: l} }

// texts is a list of texts.
func texts(l ...string) api.Json {
	v := list()
	for _, s := range l {
		v.L = append(v.L, text(s))
	}
	return v
}

// object is an object of names and values in turn, in the order in which they
// are handed in.
func object(l ...any) api.Json {
	v := api.Json{Kind: api.JObj}
	for i := 0; i < len(l); i += 2 {
		v.K = append(v.K, l[i].(string))
		v.L = append(v.L, l[i+1].(api.Json))
	}
	return v
}

// eachKind are values of all kinds, some with more than their kind names, and
// some of none.
func eachKind() []api.Json {
	values := []api.Json{
		null(), truth(0), truth(1), number(0), number(1), number(-1), text(""), text("a"), text("1"), list(), texts("a"), list(number(1)), list(list()),
		object(), object("a", text("a")), object("a", number(1)), object("a", texts("a")),
	}
	for kind := -1; kind <= 6; kind++ {
		values = append(values, api.Json{Kind: kind, N: 1, S: "a", K: []string{"a"}, L: []api.Json{text("a")}})
	}
	return append(values, api.Json{Kind: 1<<32 + api.JText, S: "a"}, api.Json{Kind: 1<<32 + api.JInt, N: 1}, api.Json{Kind: 1<<32 + api.JList, L: texts("a").L})
}

// show writes out each field of a value.
func show(v api.Json) string {
	var items []string
	for _, item := range v.L {
		items = append(items, show(item))
	}
	return fmt.Sprintf("(%d %d %q %q [%s])", v.Kind, v.N, v.S, v.K, strings.Join(items, " "))
}

// isError tells a test that err must be, of all errnos, just those that are
// wanted, the first of which errors.As finds, and have a place, or noPlace.
func isError(t *testing.T, of string, err error, place int, want ...api.Errno) {
	t.Helper()
	var no api.Errno
	if !errors.As(err, &no) || no != want[0] {
		t.Errorf("%.300s: error %v (%d), not %d", of, err, no, want[0])
	}
	for _, no := range allErrnos {
		if errors.Is(err, no) != slices.Contains(want, no) {
			t.Errorf("%.300s: errors.Is of %v and %d: %v", of, err, no, errors.Is(err, no))
		}
	}
	var at *api.At
	switch found := errors.As(err, &at); {
	case place == noPlace && found:
		t.Errorf("%.300s: place %d, and should have none", of, at.Pos)
	case place != noPlace && (!found || at.Pos != place):
		t.Errorf("%.300s: %+v, not place %d", of, at, place)
	}
	if err != nil && err.Error() == "" {
		t.Errorf("%.300s: an error without words", of)
	}
}

// isOutside tells a test that the bytes of s must not lie in memory.
func isOutside(t *testing.T, s, memory string) {
	t.Helper()
	begin := uintptr(unsafe.Pointer(unsafe.StringData(memory)))
	place := uintptr(unsafe.Pointer(unsafe.StringData(s)))
	if begin <= place && place < begin+uintptr(len(memory)) {
		t.Errorf("%q lies within what was handed in", s)
	}
}

// token is one of which all is right.
func token() claim.Token {
	return claim.Token{Issuer: "https://as.example", Handle: "AAAAAAAAAAAAAAAAAAAAAA", Client: "web", Subject: "alice", Scopes: []string{"read", "write"}, Iat: 100, Exp: 400}
}

// sixteen are as many scopes as may be.
func sixteen() []string { return strings.Split("a b c d e f g h i j k l m n o p", " ") }

// sameToken tells whether two are the same, field by field.
func sameToken(a, b claim.Token) bool {
	return a.Issuer == b.Issuer && a.Handle == b.Handle && a.Client == b.Client && a.Subject == b.Subject &&
		slices.Equal(a.Scopes, b.Scopes) && a.Iat == b.Iat && a.Exp == b.Exp
}

// refRight tells whether a token's claims are right, by the words alone.
func refRight(t claim.Token) bool {
	for _, s := range []string{t.Issuer, t.Handle, t.Client} {
		if !visiblePattern.MatchString(s) {
			return false
		}
	}
	if t.Subject != "" && !namePattern.MatchString(t.Subject) {
		return false
	}
	for i, s := range t.Scopes {
		if !namePattern.MatchString(s) || slices.Contains(t.Scopes[:i], s) {
			return false
		}
	}
	return slices.IsSorted(t.Scopes) && len(t.Scopes) <= 16 && t.Iat >= 0 && t.Exp >= t.Iat && t.Exp <= lastTime
}

// refText is the text of a token's claims, written out, by the words alone.
func refText(t claim.Token) string {
	quoted := func(s string) string {
		return `"` + strings.NewReplacer(`\`, `\\`, `"`, `\"`).Replace(s) + `"`
	}
	s := fmt.Sprintf(`{"client_id":%s,"exp":%d,"iat":%d,"iss":%s,"jti":%s,"scope":%s`,
		quoted(t.Client), t.Exp, t.Iat, quoted(t.Issuer), quoted(t.Handle), quoted(strings.Join(t.Scopes, " ")))
	if t.Subject != "" {
		s += `,"sub":` + quoted(t.Subject)
	}
	return s + "}"
}

// isRightToken tells a test that a token's claims must be right, and their text
// be as it is written out.
func isRightToken(t *testing.T, of string, one claim.Token) {
	t.Helper()
	old := slices.Clone(one.Scopes)
	if err := claim.Check(one); err != nil {
		t.Errorf("Check, %.300s: %v", of, err)
	}
	if s, err := claim.Print(one); err != nil || s != refText(one) {
		t.Errorf("Print, %.300s: %.500q, %v, not %.500q", of, s, err, refText(one))
	}
	if !slices.Equal(one.Scopes, old) {
		t.Errorf("%.300s: the scopes were changed", of)
	}
}

// isWrongToken tells a test that a token's claims must not be right, written out
// neither.
func isWrongToken(t *testing.T, of string, one claim.Token) {
	t.Helper()
	old := slices.Clone(one.Scopes)
	isError(t, "Check, "+of, claim.Check(one), noPlace, api.ErrClaim)
	s, err := claim.Print(one)
	if s != "" {
		t.Errorf("Print, %.300s: %.300q beside an error", of, s)
	}
	isError(t, "Print, "+of, err, noPlace, api.ErrClaim)
	if !slices.Equal(one.Scopes, old) {
		t.Errorf("%.300s: the scopes were changed", of)
	}
}

// isToken tells a test whether a token's claims must be right, by the words.
func isToken(t *testing.T, of string, one claim.Token) (right bool) {
	t.Helper()
	right = refRight(one)
	if right {
		isRightToken(t, of, one)
	} else {
		isWrongToken(t, of, one)
	}
	return right
}

// isRead tells a test that Read of s must be want.
func isRead(t *testing.T, s string, want claim.Token) {
	t.Helper()
	if got, err := claim.Read(s); err != nil || !sameToken(got, want) {
		t.Errorf("Read(%.400q): %.400q, %v, not %.400q", s, fmt.Sprint(got), err, fmt.Sprint(want))
	}
}

// isNotRead tells a test that Read of s must tell ErrClaim, and whether a member
// that isn't there, or isn't so, must be behind it.
func isNotRead(t *testing.T, s string, also ...api.Errno) {
	t.Helper()
	got, err := claim.Read(s)
	if !sameToken(got, claim.Token{}) {
		t.Errorf("Read(%.300q): %.300q beside an error", s, fmt.Sprint(got))
	}
	isError(t, fmt.Sprintf("Read(%.300q)", s), err, noPlace, append([]api.Errno{api.ErrClaim}, also...)...)
}

// isRefused tells a test that Read of s must tell ErrClaim at no place, whatever
// is behind it.
func isRefused(t *testing.T, s string) {
	t.Helper()
	got, err := claim.Read(s)
	if !sameToken(got, claim.Token{}) {
		t.Errorf("Read(%.300q): %.300q beside an error", s, fmt.Sprint(got))
	}
	var no api.Errno
	var at *api.At
	if !errors.As(err, &no) || no != api.ErrClaim || errors.As(err, &at) {
		t.Errorf("Read(%.300q): %v (%d), %+v", s, err, no, at)
	}
}

// refRead tells what Read must, by the words alone. (What is JSON, layer 5
// says.)
func refRead(s string) (claim.Token, bool) {
	if _, err := json.Parse([]byte(s)); err != nil {
		return claim.Token{}, false
	}
	var members map[string]any
	reader := stdjson.NewDecoder(strings.NewReader(s))
	reader.UseNumber()
	if reader.Decode(&members) != nil || members == nil {
		return claim.Token{}, false
	}
	wrong := 0
	textOf := func(name string) string {
		val, right := members[name].(string)
		if !right {
			wrong++
		}
		delete(members, name)
		return val
	}
	numberOf := func(name string) int64 {
		val, right := members[name].(stdjson.Number)
		n, err := val.Int64()
		if !right || err != nil {
			wrong++
		}
		delete(members, name)
		return n
	}
	one := claim.Token{Issuer: textOf("iss"), Handle: textOf("jti"), Client: textOf("client_id"), Iat: numberOf("iat"), Exp: numberOf("exp")}
	if scopes := textOf("scope"); scopes != "" {
		one.Scopes = strings.Split(scopes, " ")
		slices.Sort(one.Scopes)
		one.Scopes = slices.Compact(one.Scopes)
	}
	if _, there := members["sub"]; there {
		if one.Subject = textOf("sub"); one.Subject == "" {
			wrong++
		}
	}
	if wrong > 0 || len(members) > 0 || !refRight(one) {
		return claim.Token{}, false
	}
	return one, true
}

// asReference tells a test that Read of s must be as the reference, and whether
// it is a text of claims.
func asReference(t *testing.T, s string) bool {
	t.Helper()
	want, right := refRead(s)
	if right {
		isRead(t, s, want)
	} else {
		isRefused(t, s)
	}
	return right
}

// isPushed tells a test that Pushed must tell a subject and claims.
func isPushed(t *testing.T, s string, now int64, sub string, claims api.Json) {
	t.Helper()
	gotSub, gotClaims, err := claim.Pushed(s, now)
	if err != nil || gotSub != sub || show(gotClaims) != show(claims) {
		t.Errorf("Pushed(%.300q, %d): %q, %.300s, %v, not %q, %.300s", s, now, gotSub, show(gotClaims), err, sub, show(claims))
	}
}

// isNotPushed tells a test that Pushed must tell ErrClaim at a place, or noPlace,
// and what else must be behind it.
func isNotPushed(t *testing.T, s string, now int64, place int, also ...api.Errno) {
	t.Helper()
	sub, claims, err := claim.Pushed(s, now)
	if sub != "" || show(claims) != show(null()) {
		t.Errorf("Pushed(%.300q, %d): %q, %.300s beside an error", s, now, sub, show(claims))
	}
	isError(t, fmt.Sprintf("Pushed(%.300q, %d)", s, now), err, place, append([]api.Errno{api.ErrClaim}, also...)...)
}

// anyOf is a text of the signs, least to most bytes long.
func anyOf(chance *rand.Rand, signs string, least, most int) string {
	b := make([]byte, least+chance.IntN(most-least+1))
	for i := range b {
		b[i] = signs[chance.IntN(len(signs))]
	}
	return string(b)
}

// anyName is a right name.
func anyName(chance *rand.Rand) string {
	return anyOf(chance, "abcdefghijklmnopqrstuvwxyz0123456789.:_-", 1, []int{2, 5, 32}[chance.IntN(3)])
}

// anyVisible is an issuer, a handle, a client.
func anyVisible(chance *rand.Rand) string {
	var signs []byte
	for c := byte(33); c <= 126; c++ {
		signs = append(signs, c)
	}
	return anyOf(chance, string(signs)+`""""\\\\\\`, 1, []int{2, 22, 64}[chance.IntN(3)])
}

// anyToken is one of which all is right.
func anyToken(chance *rand.Rand) claim.Token {
	one := claim.Token{Issuer: anyVisible(chance), Handle: anyVisible(chance), Client: anyVisible(chance)}
	if chance.IntN(2) == 0 {
		one.Subject = anyName(chance)
	}
	for range chance.IntN(17) {
		one.Scopes = append(one.Scopes, anyName(chance))
	}
	slices.Sort(one.Scopes)
	one.Scopes = slices.Compact(one.Scopes)
	one.Exp = chance.Int64N(lastTime+1) >> chance.IntN(42)
	one.Iat = chance.Int64N(one.Exp + 1)
	return one
}
