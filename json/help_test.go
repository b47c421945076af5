package json_test

import (
	"bytes"
	"errors"
	"fmt"
	"regexp"
	"slices"
	"strconv"
	"strings"
	"testing"
	"unicode/utf16"
	"unicode/utf8"

	"warrant/api"
	"warrant/json"
)

// noPlace is what an error is told by that has no place.
const noPlace = -1

func null() api.Json              { return api.Json{} }
func truth(n int64) api.Json      { return api.Json{Kind: api.JBool, N: n} }
func number(n int64) api.Json     { return api.Json{Kind: api.JInt, N: n} }
func text(s string) api.Json      { return api.Json{Kind: api.JText, S: s} }
func list(l ...api.Json) api.Json { return api.Json{Kind: api.JList, L: l} }

// object is an object of names and values in turn, in the order in which they
// are handed in.
func object(l ...any) api.Json {
	v := api.Json{Kind: api.JObj}
	for i := 0; i < len(l); i += 2 {
		v.K = append(v.K, l[i].(string))
		v.L = append(v.L, l[i+1].(api.Json))
	}
	return v
}

// within is v within as many lists.
func within(v api.Json, lists int) api.Json {
	for range lists {
		v = list(v)
	}
	return v
}

// many are n values, each null.
func many(n int) []api.Json { return make([]api.Json, n) }

// show writes out each field of a value.
func show(v api.Json) string {
	var items []string
	for _, item := range v.L {
		items = append(items, show(item))
	}
	return fmt.Sprintf("(%d %d %q %q [%s])", v.Kind, v.N, v.S, v.K, strings.Join(items, " "))
}

// isError tells a test that err must be just want, at a place, or at noPlace.
func isError(t *testing.T, of string, err error, want api.Errno, place int) {
	t.Helper()
	var no api.Errno
	if !errors.Is(err, want) || !errors.As(err, &no) || no != want {
		t.Errorf("%s: error %v (%d), not %d", of, err, no, want)
	}
	var at *api.At
	switch found := errors.As(err, &at); {
	case place == noPlace && found:
		t.Errorf("%s: place %d, and should have none", of, at.Pos)
	case place != noPlace && (!found || at.Pos != place):
		t.Errorf("%s: %+v, not place %d", of, at, place)
	}
}

// isParsed tells a test that Parse of s must be want.
func isParsed(t *testing.T, s string, want api.Json) {
	t.Helper()
	if v, err := json.Parse([]byte(s)); err != nil || show(v) != show(want) {
		t.Errorf("Parse(%.80q): %.200s, %+v, not %.200s", s, show(v), err, show(want))
	}
}

// isWrong tells a test that Parse of s must tell just the error want, at a
// place, or at noPlace.
func isWrong(t *testing.T, s string, want api.Errno, place int) {
	t.Helper()
	v, err := json.Parse([]byte(s))
	if show(v) != show(null()) {
		t.Errorf("Parse(%.80q): %.80s beside an error", s, show(v))
	}
	isError(t, fmt.Sprintf("Parse(%.80q)", s), err, want, place)
}

// isRight tells a test that v must be right.
func isRight(t *testing.T, v api.Json) {
	t.Helper()
	if err := json.Check(v); err != nil {
		t.Errorf("Check(%.200s): %v", show(v), err)
	}
}

// isPrinted tells a test that Print of v must be want.
func isPrinted(t *testing.T, v api.Json, want string) {
	t.Helper()
	isRight(t, v)
	if s, err := json.Print(v); err != nil || s != want {
		t.Errorf("Print(%.200s): %.200q, %v, not %.200q", show(v), s, err, want)
	}
}

// isTooLong tells a test that Print of v, a right value, must tell ErrLong.
func isTooLong(t *testing.T, v api.Json) {
	t.Helper()
	isRight(t, v)
	s, err := json.Print(v)
	if s != "" {
		t.Errorf("Print: %d bytes beside an error", len(s))
	}
	isError(t, "Print", err, api.ErrLong, noPlace)
}

// isNotRight tells a test that v must not be right.
func isNotRight(t *testing.T, what string, v api.Json) {
	t.Helper()
	isError(t, "Check of "+what, json.Check(v), api.ErrArg, noPlace)
	s, err := json.Print(v)
	if s != "" {
		t.Errorf("Print of %s: %d bytes beside an error", what, len(s))
	}
	isError(t, "Print of "+what, err, api.ErrArg, noPlace)
}

// asReference tells a test that Parse of s must be as the reference.
func asReference(t *testing.T, s string) {
	t.Helper()
	if v, no, place := refParse([]byte(s)); no != 0 {
		isWrong(t, s, no, place)
	} else {
		isParsed(t, s, v)
	}
}

// What refParse wants next.
const (
	aValue = iota
	aValueOrEnd
	aName
	aNameOrEnd
	aColon
	whatFollows
	nothing
)

// opened is a list or an object that isn't ended yet.
type opened struct {
	object bool
	names  []string
	values []api.Json
}

// end is the value of what was opened, and the sign that ends it.
func (o *opened) end() (api.Json, byte) {
	if !o.object {
		return api.Json{Kind: api.JList, L: o.values}, ']'
	}
	v := api.Json{Kind: api.JObj, K: slices.Clone(o.names)}
	slices.Sort(v.K)
	for _, name := range v.K {
		v.L = append(v.L, o.values[slices.Index(o.names, name)])
	}
	return v, '}'
}

// refParse tells what Parse must, by the words alone: sign by sign, with what
// is open on a stack; or an error and its place.
func refParse(b []byte) (api.Json, api.Errno, int) {
	if len(b) > 4096 {
		return null(), api.ErrLong, noPlace
	}
	var (
		whole  api.Json
		stack  []*opened
		values int
		want   = aValue
	)
	stand := func(v api.Json) {
		if len(stack) == 0 {
			whole, want = v, nothing
			return
		}
		top := stack[len(stack)-1]
		top.values, want = append(top.values, v), whatFollows
	}
	for i := 0; ; {
		if i < len(b) && (b[i] == 9 || b[i] == 10 || b[i] == 13 || b[i] == 32) {
			i++
			continue
		}
		if i == len(b) {
			if want == nothing {
				return whole, 0, 0
			}
			return null(), api.ErrJson, i
		}
		if want != aValue && want != nothing && want != aColon && want != aName {
			v, sign := stack[len(stack)-1].end()
			if b[i] == sign {
				stack = stack[:len(stack)-1]
				stand(v)
				i++
				continue
			}
		}
		switch want {
		case aColon:
			if b[i] != ':' {
				return null(), api.ErrJson, i
			}
			want = aValue
			i++
		case whatFollows:
			if b[i] != ',' {
				return null(), api.ErrJson, i
			}
			want = aValue
			if stack[len(stack)-1].object {
				want = aName
			}
			i++
		case aName, aNameOrEnd:
			name, size, right := refQuoted(b[i:])
			if !right {
				return null(), api.ErrJson, i + size
			}
			top := stack[len(stack)-1]
			if slices.Contains(top.names, name) {
				return null(), api.ErrTwice, i
			}
			top.names, want = append(top.names, name), aColon
			i += size
		case aValue, aValueOrEnd:
			if bytes.IndexByte([]byte(`"tfn[{-0123456789`), b[i]) < 0 {
				return null(), api.ErrJson, i
			}
			if values++; values == 257 {
				return null(), api.ErrMany, i
			}
			if b[i] == '[' || b[i] == '{' {
				if len(stack) == 8 {
					return null(), api.ErrDeep, i
				}
				stack, want = append(stack, &opened{object: b[i] == '{'}), aValueOrEnd
				if b[i] == '{' {
					want = aNameOrEnd
				}
				i++
				continue
			}
			v, no, size := refScalar(b[i:])
			if no != 0 {
				return null(), no, i + size
			}
			stand(v)
			i += size
		default:
			return null(), api.ErrJson, i
		}
	}
}

var (
	numbers  = regexp.MustCompile(`^(0|-?[1-9][0-9]*)`)
	escapes  = regexp.MustCompile(`^\\(["\\/bfnrt]|u[0-9a-fA-F]{4})`)
	unescape = map[byte]string{'"': `"`, '\\': `\`, '/': "/", 'b': "\b", 'f': "\f", 'n': "\n", 'r': "\r", 't': "\t"}
)

// refScalar tells the value that b begins with, and its size; or the error and
// its place.
func refScalar(b []byte) (api.Json, api.Errno, int) {
	switch b[0] {
	case '"':
		s, size, right := refQuoted(b)
		if !right {
			return null(), api.ErrJson, size
		}
		return text(s), 0, size
	case 't', 'f', 'n':
		word := map[byte]string{'t': "true", 'f': "false", 'n': "null"}[b[0]]
		for i := range len(word) {
			if i == len(b) || b[i] != word[i] {
				return null(), api.ErrJson, i
			}
		}
		return map[byte]api.Json{'t': truth(1), 'f': truth(0), 'n': null()}[b[0]], 0, len(word)
	}
	found := numbers.Find(b)
	if found == nil {
		return null(), api.ErrJson, 1
	}
	n, err := strconv.ParseInt(string(found), 10, 64)
	if err != nil || n < -9007199254740991 || n > 9007199254740991 {
		return null(), api.ErrOver, 0
	}
	return number(n), 0, len(found)
}

// refQuoted tells the text within quotes that b begins with, and its size; or
// the place where it is wrong.
func refQuoted(b []byte) (s string, size int, right bool) {
	if b[0] != '"' {
		return "", 0, false
	}
	for i := 1; ; {
		switch {
		case i == len(b) || b[i] < 32:
			return "", i, false
		case b[i] == '"':
			return s, i + 1, true
		case b[i] == '\\':
			letter, used, ok := refEscaped(b[i:])
			if !ok {
				return "", i + used, false
			}
			s += letter
			i += used
		default:
			r, used := utf8.DecodeRune(b[i:])
			if r == utf8.RuneError && used < 2 {
				return "", i, false
			}
			s += string(r)
			i += used
		}
	}
}

// refEscaped tells the letter of what begins with a \, and its size; or the
// place where it is wrong.
func refEscaped(b []byte) (letter string, size int, right bool) {
	first := escapes.Find(b)
	if first == nil {
		size = 1
		if len(b) > 1 && b[1] == 'u' {
			for size = 2; size < len(b) && strings.Contains("0123456789abcdefABCDEF", string(b[size:size+1])); size++ {
			}
		}
		return "", size, false
	}
	if first[1] != 'u' {
		return unescape[first[1]], 2, true
	}
	n, _ := strconv.ParseUint(string(first[2:]), 16, 16)
	if !utf16.IsSurrogate(rune(n)) {
		return string(rune(n)), 6, true
	}
	second := escapes.Find(b[6:])
	if len(second) != 6 {
		return "", 0, false
	}
	m, _ := strconv.ParseUint(string(second[2:]), 16, 16)
	both := utf16.DecodeRune(rune(n), rune(m))
	if both == utf8.RuneError {
		return "", 0, false
	}
	return string(both), 12, true
}
