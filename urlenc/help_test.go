package urlenc_test

import (
	"errors"
	"fmt"
	"math/rand/v2"
	"slices"
	"strconv"
	"strings"
	"testing"
	"unicode/utf8"

	"warrant/api"
	"warrant/urlenc"
)

// noPlace is what an error is told by that has no place.
const noPlace = -1

// asTheyAre are all the bytes that stand for themselves in what is printed.
const asTheyAre = "ABCDEFGHIJKLMNOPQRSTUVWXYZabcdefghijklmnopqrstuvwxyz0123456789*-._"

// hexDigits are all the digits of base 16 that may be read.
const hexDigits = "0123456789abcdefABCDEF"

// params are parameters of names and values in turn.
func params(l ...string) []api.Param {
	var out []api.Param
	for i := 0; i < len(l); i += 2 {
		out = append(out, api.Param{Name: l[i], Val: l[i+1]})
	}
	return out
}

// numbered are n parameters, a0 to the last, with values that are empty.
func numbered(n int) []api.Param {
	var l []api.Param
	for i := range n {
		l = append(l, api.Param{Name: "a" + strconv.Itoa(i)})
	}
	return l
}

// names are the texts of l's names, with & between them.
func names(l []api.Param) string {
	var texts []string
	for _, p := range l {
		texts = append(texts, p.Name)
	}
	return strings.Join(texts, "&")
}

// isError tells a test that err must be just want, at a place, or at noPlace.
func isError(t *testing.T, of string, err error, want api.Errno, place int) {
	t.Helper()
	var no api.Errno
	if !errors.Is(err, want) || !errors.As(err, &no) || no != want {
		t.Errorf("%s: error %v (%d), not %d", of, err, no, want)
	}
	var at *api.At
	switch found := errors.As(err, &at); {
	case place == noPlace && found:
		t.Errorf("%s: place %d, and should have none", of, at.Pos)
	case place != noPlace && (!found || at.Pos != place):
		t.Errorf("%s: %+v, not place %d", of, at, place)
	}
}

// isParsed tells a test that Parse of s must be want.
func isParsed(t *testing.T, s string, want []api.Param) {
	t.Helper()
	if l, err := urlenc.Parse(s); err != nil || !slices.Equal(l, want) {
		t.Errorf("Parse(%.80q): %.200q, %+v, not %.200q", s, l, err, want)
	}
}

// isWrong tells a test that Parse of s must tell just the error want, at a
// place, or at noPlace.
func isWrong(t *testing.T, s string, want api.Errno, place int) {
	t.Helper()
	l, err := urlenc.Parse(s)
	if len(l) != 0 {
		t.Errorf("Parse(%.80q): %.80q beside an error", s, l)
	}
	isError(t, fmt.Sprintf("Parse(%.80q)", s), err, want, place)
}

// isPrinted tells a test that Print of l must be want.
func isPrinted(t *testing.T, l []api.Param, want string) {
	t.Helper()
	if s, err := urlenc.Print(l); err != nil || s != want {
		t.Errorf("Print(%.200q): %.200q, %v, not %.200q", l, s, err, want)
	}
}

// isNotPrinted tells a test that Print of l must tell just the error want.
func isNotPrinted(t *testing.T, l []api.Param, want api.Errno) {
	t.Helper()
	s, err := urlenc.Print(l)
	if s != "" {
		t.Errorf("Print(%.80q): %d bytes beside an error", l, len(s))
	}
	isError(t, fmt.Sprintf("Print(%.80q)", l), err, want, noPlace)
}

// isMeant tells a test that Unescape of s must be want.
func isMeant(t *testing.T, s, want string) {
	t.Helper()
	if got, err := urlenc.Unescape(s); err != nil || got != want {
		t.Errorf("Unescape(%.80q): %.80q, %+v, not %.80q", s, got, err, want)
	}
}

// isLoose tells a test that Unescape of s must tell just ErrUrl, at place.
func isLoose(t *testing.T, s string, place int) {
	t.Helper()
	got, err := urlenc.Unescape(s)
	if got != "" {
		t.Errorf("Unescape(%.80q): %.80q beside an error", s, got)
	}
	isError(t, fmt.Sprintf("Unescape(%.80q)", s), err, api.ErrUrl, place)
}

// refEscape tells what Escape must, by the words alone.
func refEscape(s string) string {
	out := ""
	for _, c := range []byte(s) {
		switch {
		case strings.IndexByte(asTheyAre, c) >= 0:
			out += string([]byte{c})
		case c == ' ':
			out += "+"
		default:
			out += fmt.Sprintf("%%%02X", c)
		}
	}
	return out
}

// refUnescape tells what Unescape must, by the words alone: from behind, so
// that what is told last is the first fault; noPlace, if there is none.
func refUnescape(s string) (meant string, fault int) {
	fault = noPlace
	for i := len(s) - 1; i >= 0; i-- {
		switch s[i] {
		case '+':
			meant = " " + meant
		case '%':
			behind := s[i+1 : min(i+3, len(s))]
			n, err := strconv.ParseUint(behind, 16, 8)
			if err != nil || len(behind) < 2 || strings.Trim(behind, hexDigits) != "" {
				fault = i
				continue
			}
			meant = string([]byte{byte(n)}) + meant[2:]
		default:
			meant = s[i:i+1] + meant
		}
	}
	return meant, fault
}

// refParse tells what Parse must, by the words alone; or an error and its place.
func refParse(s string) ([]api.Param, api.Errno, int) {
	if len(s) > 4096 {
		return nil, api.ErrLong, noPlace
	}
	var l []api.Param
	for start := 0; start < len(s); start++ {
		end := start
		for end < len(s) && s[end] != '&' {
			end++
		}
		part, place := s[start:end], start
		start = end
		if part == "" {
			continue
		}
		if _, fault := refUnescape(part); fault != noPlace {
			return nil, api.ErrUrl, place + fault
		}
		halves := append(strings.SplitN(part, "=", 2), "")
		name, _ := refUnescape(halves[0])
		val, _ := refUnescape(halves[1])
		if name == "" || !utf8.ValidString(name) || !utf8.ValidString(val) {
			return nil, api.ErrUrl, place
		}
		for _, p := range l {
			if p.Name == name {
				return nil, api.ErrTwice, place
			}
		}
		if len(l) == 32 {
			return nil, api.ErrMany, noPlace
		}
		l = append(l, api.Param{Name: name, Val: val})
	}
	return l, 0, noPlace
}

// asReference tells a test that Parse and Unescape of s must be as the
// references.
func asReference(t *testing.T, s string) {
	t.Helper()
	if l, no, place := refParse(s); no != 0 {
		isWrong(t, s, no, place)
	} else {
		isParsed(t, s, l)
	}
	if meant, fault := refUnescape(s); fault != noPlace {
		isLoose(t, s, fault)
	} else {
		isMeant(t, s, meant)
	}
}

// anyName is a text of a few letters of all sizes, which may be empty.
func anyName(chance *rand.Rand) string {
	letters := []rune("aAzZ019 *-._~+&=%/?#;\"\\\x00\n\x1f\x7f\u0080\u00e9\u07ff\u0800\u20ac\ufffd\uffff\U00010000\U0010ffff")
	s := ""
	for range chance.IntN(6) {
		s += string(letters[chance.IntN(len(letters))])
	}
	return s
}

// anyParams are right parameters, at most as many.
func anyParams(chance *rand.Rand, most int) []api.Param {
	var l []api.Param
	for range chance.IntN(most + 1) {
		p := api.Param{Name: anyName(chance), Val: anyName(chance)}
		isThere := func(q api.Param) bool { return q.Name == p.Name }
		if p.Name != "" && !slices.ContainsFunc(l, isThere) {
			l = append(l, p)
		}
	}
	return l
}

// anyBytes writes each byte of s in one of its ways; of itself, if it isn't one
// of those that are signs.
func anyBytes(chance *rand.Rand, s, signs string) string {
	out := ""
	for _, c := range []byte(s) {
		ways := []string{fmt.Sprintf("%%%02x", c), fmt.Sprintf("%%%02X", c)}
		if strings.IndexByte(signs, c) < 0 {
			ways = append(ways, string([]byte{c}), string([]byte{c}))
		}
		if c == ' ' {
			ways = append(ways, "+")
		}
		out += ways[chance.IntN(len(ways))]
	}
	return out
}

// anyText is a text of l, written in any way, with empty parts in it.
func anyText(chance *rand.Rand, l []api.Param) string {
	var parts []string
	for _, p := range l {
		for range max(0, chance.IntN(6)-3) {
			parts = append(parts, "")
		}
		part := anyBytes(chance, p.Name, "&=+%")
		if p.Val != "" || chance.IntN(2) == 0 {
			part += "=" + anyBytes(chance, p.Val, "&+%")
		}
		parts = append(parts, part)
	}
	for range max(0, chance.IntN(6)-3) {
		parts = append(parts, "")
	}
	return strings.Join(parts, "&")
}
