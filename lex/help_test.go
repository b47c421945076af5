package lex_test

import (
	"errors"
	"fmt"
	"math/rand/v2"
	"regexp"
	"slices"
	"strconv"
	"strings"
	"testing"
	"unicode/utf8"
	"unsafe"

	"warrant/api"
	"warrant/lex"
)

// noPlace is what an error is told by that has no place.
const noPlace = -1

const maxInt = 9007199254740991

var (
	// allErrnos are the errors that this layer, or one of those that it calls,
	// may tell, and some more.
	allErrnos = []api.Errno{api.ErrLong, api.ErrOver, api.ErrMany, api.ErrLex, api.ErrDec, api.ErrUtf, api.ErrArg, api.ErrParse}
	allSigns  = []string{"(", ")", "[", "]", ",", ";", "=", "!=", "<", "<=", ">", ">="}
)

// Each kind of token, told as its number; the end is at a place.
func word(s string, pos int) api.Tok              { return api.Tok{Kind: 1, S: s, Pos: pos} }
func text(s string, pos int) api.Tok              { return api.Tok{Kind: 2, S: s, Pos: pos} }
func number(n int64, pos int) api.Tok             { return api.Tok{Kind: 3, N: n, Pos: pos} }
func sign(s string, pos int) api.Tok              { return api.Tok{Kind: 4, S: s, Pos: pos} }
func end(pos int) api.Tok                         { return api.Tok{Kind: 5, Pos: pos} }
func toks(l ...api.Tok) []api.Tok                 { return l }
func isSame(a, b []api.Tok) bool                  { return slices.Equal(a, b) }
func times(s string, n int) string                { return strings.Repeat(s, n) }
func oneByte(c int) string                        { return string([]byte{byte(c)}) }
func isOneOf(c int, signs string) bool            { return strings.IndexByte(signs, byte(c)) >= 0 }
func anyOf(chance *rand.Rand, l ...string) string { return l[chance.IntN(len(l))] }

// show writes out each field of tokens.
func show(l []api.Tok) string {
	s := ""
	for _, tok := range l {
		s += fmt.Sprintf("(%d %q %d at %d)", tok.Kind, tok.S, tok.N, tok.Pos)
	}
	return s
}

// isError tells a test that err must be just want, at a place, or at noPlace.
func isError(t *testing.T, of string, err error, want api.Errno, place int) {
	t.Helper()
	var no api.Errno
	if !errors.As(err, &no) || no != want {
		t.Errorf("%s: error %v (%d), not %d", of, err, no, want)
	}
	for _, other := range allErrnos {
		if errors.Is(err, other) != (other == want) {
			t.Errorf("%s: errors.Is of %v and %d: %v", of, err, other, other != want)
		}
	}
	var at *api.At
	switch found := errors.As(err, &at); {
	case place == noPlace && found:
		t.Errorf("%s: place %d, and should have none", of, at.Pos)
	case place != noPlace && (!found || at.Pos != place):
		t.Errorf("%s: %+v, not place %d", of, at, place)
	}
}

// isScanned tells a test that Scan of s must be want.
func isScanned(t *testing.T, s string, want []api.Tok) {
	t.Helper()
	if l, err := lex.Scan(s); err != nil || !isSame(l, want) {
		t.Errorf("Scan(%.200q): %.300s, %+v, not %.300s", s, show(l), err, show(want))
	}
}

// isWrong tells a test that Scan of s must tell just the error want, at a
// place, or at noPlace.
func isWrong(t *testing.T, s string, want api.Errno, place int) {
	t.Helper()
	l, err := lex.Scan(s)
	if len(l) != 0 {
		t.Errorf("Scan(%.200q): %.300s beside an error", s, show(l))
	}
	isError(t, fmt.Sprintf("Scan(%.200q)", s), err, want, place)
}

// isSpelled tells a test what Spell of a token must be.
func isSpelled(t *testing.T, tok api.Tok, want string) {
	t.Helper()
	if got := lex.Spell(tok); got != want {
		t.Errorf("Spell(%.200s): %.200q, not %.200q", show(toks(tok)), got, want)
	}
}

// isQuoted tells a test that Quote and Spell of s must be want.
func isQuoted(t *testing.T, s, want string) {
	t.Helper()
	if got, fits := lex.Quote(s); !fits || got != want {
		t.Errorf("Quote(%.200q): %.200q, %v, not %.200q", s, got, fits, want)
	}
	isSpelled(t, text(s, 0), want)
}

// isNotQuoted tells a test that s must have no text.
func isNotQuoted(t *testing.T, s string) {
	t.Helper()
	if got, fits := lex.Quote(s); fits || got != "" {
		t.Errorf("Quote(%.200q): %.200q, %v", s, got, fits)
	}
	isSpelled(t, text(s, 0), "")
}

// isJoined tells a test what Join of tokens must be.
func isJoined(t *testing.T, l []api.Tok, want string) {
	t.Helper()
	if got := lex.Join(l); got != want {
		t.Errorf("Join(%.200s): %.200q, not %.200q", show(l), got, want)
	}
}

// isOutside tells a test that the bytes of s must not lie in memory.
func isOutside(t *testing.T, s, memory string) {
	t.Helper()
	begin := uintptr(unsafe.Pointer(unsafe.StringData(memory)))
	place := uintptr(unsafe.Pointer(unsafe.StringData(s)))
	if s != "" && begin <= place && place < begin+uintptr(len(memory)) {
		t.Errorf("%q lies within %.80q", s, memory)
	}
}

// asReference tells a test that Scan of s must be as the reference.
func asReference(t *testing.T, s string) {
	t.Helper()
	if l, no, place := refScan(s); no != 0 {
		isWrong(t, s, no, place)
	} else {
		isScanned(t, s, l)
	}
}

var (
	gaps    = regexp.MustCompile(`\A(?:[\t\n\r ]|#[^\n]*(?:\n|\z))*`)
	words   = regexp.MustCompile(`\A[a-z_]+`)
	numbers = regexp.MustCompile(`\A(?:0|-?[1-9][0-9]*)`)
	signs   = regexp.MustCompile(`\A(?:!=|<=|>=|[()\[\],;=<>])`)
	insides = regexp.MustCompile(`\A"(?:[^"\\\x00-\x1f]|\\["\\])*`)
)

// refScan tells what Scan must, by the words alone; or an error and its place.
func refScan(s string) ([]api.Tok, api.Errno, int) {
	if len(s) > 2048 {
		return nil, api.ErrLong, noPlace
	}
	var l []api.Tok
	for pos := 0; ; {
		pos += len(gaps.FindString(s[pos:]))
		if pos == len(s) {
			return append(l, end(pos)), 0, 0
		}
		tok, size, no := refToken(s[pos:])
		if no != 0 {
			return nil, no, pos + size
		}
		if len(l) == 512 {
			return nil, api.ErrMany, pos
		}
		tok.Pos = pos
		l = append(l, tok)
		pos += size
	}
}

// refToken tells the token that s begins with, and its size; or an error and
// its place.
func refToken(s string) (api.Tok, int, api.Errno) {
	if s[0] == '"' {
		return refText(s)
	}
	if w := words.FindString(s); w != "" {
		if len(w) > 32 {
			return api.Tok{}, 0, api.ErrLex
		}
		return word(w, 0), len(w), 0
	}
	if digits := numbers.FindString(s); digits != "" {
		n, err := strconv.ParseInt(digits, 10, 64)
		if err != nil || n < -maxInt || n > maxInt {
			return api.Tok{}, 0, api.ErrOver
		}
		return number(n, 0), len(digits), 0
	}
	if found := signs.FindString(s); found != "" {
		return sign(found, 0), len(found), 0
	}
	return api.Tok{}, 0, api.ErrLex
}

// refText tells the token of a text that s begins with, as refToken does. The
// library takes each byte that is no UTF-8 for a letter, so that what is
// inside is looked through once more.
func refText(s string) (api.Tok, int, api.Errno) {
	inside := insides.FindString(s)
	for i, letter := range inside {
		if letter == utf8.RuneError && !strings.HasPrefix(inside[i:], "\ufffd") {
			return api.Tok{}, i, api.ErrLex
		}
	}
	switch rest := s[len(inside):]; {
	case rest == "", rest[0] < 32:
		return api.Tok{}, len(inside), api.ErrLex
	case rest[0] == '\\':
		return api.Tok{}, len(inside) + 1, api.ErrLex
	}
	said := strings.NewReplacer(`\"`, `"`, `\\`, `\`).Replace(inside[1:])
	return text(said, 0), len(inside) + 1, 0
}

// refQuote tells what Quote must, by the words alone.
func refQuote(s string) (string, bool) {
	if !utf8.ValidString(s) || strings.ContainsFunc(s, func(c rune) bool { return c < 32 }) {
		return "", false
	}
	return `"` + strings.NewReplacer(`"`, `\"`, `\`, `\\`).Replace(s) + `"`, true
}

// refSpell tells what Spell must, by the words alone.
func refSpell(tok api.Tok) string {
	switch {
	case tok.Kind == 1 && len(tok.S) <= 32 && words.FindString(tok.S) == tok.S:
		return tok.S
	case tok.Kind == 2:
		quoted, _ := refQuote(tok.S)
		return quoted
	case tok.Kind == 3 && -maxInt <= tok.N && tok.N <= maxInt:
		return strconv.FormatInt(tok.N, 10)
	case tok.Kind == 4 && slices.Contains(allSigns, tok.S):
		return tok.S
	}
	return ""
}

// anyLetters is a text of a few letters of all sizes that may be quoted.
func anyLetters(chance *rand.Rand) string {
	letters := []rune("aZz_09 \"\\\"\\#;(-!=\x7f\u0080\u00a0\u00e9\u07ff\u0800\u20ac\u2028\ufeff\ufffd\uffff\U00010000\U0010ffff")
	s := ""
	for range chance.IntN(8) {
		s += string(letters[chance.IntN(len(letters))])
	}
	return s
}

// anyTok is a right token, but for its place.
func anyTok(chance *rand.Rand) api.Tok {
	switch chance.IntN(4) {
	case 0:
		s := ""
		for range 1 + chance.IntN(1<<chance.IntN(6)) {
			s += oneByte(int("abcdefghijklmnopqrstuvwxyz_"[chance.IntN(27)]))
		}
		return word(s, 0)
	case 1:
		return text(anyLetters(chance), 0)
	case 2:
		return number(chance.Int64N(maxInt+1)>>chance.IntN(54)*int64(1-2*chance.IntN(2)), 0)
	}
	return sign(anyOf(chance, allSigns...), 0)
}

// anyGap are blanks and remarks, at least one of them.
func anyGap(chance *rand.Rand) string {
	s := ""
	for range 1 + chance.IntN(3) {
		s += anyOf(chance, " ", " ", " ", "\n", "\t", "\r", "\r\n", "#\n", "# a remark\n", "#\"\n", "##\\ \xff\x00\r!\n", "#é € #\n", "# permit;\n")
	}
	return s
}

// needsGap tells whether a gap must stand between the texts of two tokens.
func needsGap(a, b string) bool {
	l, no, _ := refScan(a + b)
	return a != "" && (no != 0 || len(l) != 3 || l[1].Pos != len(a))
}

// anyPolicy are right tokens, at most as many, with gaps between them where
// there must be one, or perhaps.
func anyPolicy(chance *rand.Rand, most int) string {
	s, last := "", ""
	for range chance.IntN(most + 1) {
		tok := refSpell(anyTok(chance))
		if needsGap(last, tok) || chance.IntN(2) == 0 {
			s += anyGap(chance)
		}
		s, last = s+tok, tok
	}
	return s
}

// spoiled is s with something done to it, perhaps such that it is right again.
func spoiled(chance *rand.Rand, s string) string {
	place := chance.IntN(len(s) + 1)
	rest := s[min(len(s), place+1):]
	switch chance.IntN(6) {
	case 0:
		return s[:place] + oneByte(chance.IntN(256)) + rest
	case 1:
		return s[:place] + oneByte(chance.IntN(256)) + s[place:]
	case 2:
		return s[:place]
	case 3:
		return s[place:] + s[:place]
	case 4:
		return s[:place] + rest
	}
	return s[:place] + anyOf(chance, "!", "-", "-0", `"`, `\`, "#", "\n", "=", "é", "\xc3", "9007199254740992", "-9007199254740991", times("a", 31), "A", "\x00") + s[place:]
}
