package urlenc_test

import (
	"errors"
	"math/rand/v2"
	"strings"
	"testing"

	"warrant/api"
	"warrant/urlenc"
)

func TestP6_2Known(t *testing.T) {
	for s, want := range map[string][]api.Param{
		"":                     nil,
		"a=1+2&b=%C3%A9&c":     params("a", "1 2", "b", "\u00e9", "c", ""),
		"a":                    params("a", ""),
		"a=":                   params("a", ""),
		"a=b":                  params("a", "b"),
		"b=1&a=2":              params("b", "1", "a", "2"),
		"a&b":                  params("a", "", "b", ""),
		"a&A":                  params("a", "", "A", ""),
		"a=b&b=a":              params("a", "b", "b", "a"),
		"a=same&b=same":        params("a", "same", "b", "same"),
		"a&ab&abc":             params("a", "", "ab", "", "abc", ""),
		"a+=1&a=2":             params("a ", "1", "a", "2"),
		"+=+":                  params(" ", " "),
		" = ":                  params(" ", " "),
		"a+b=c+d":              params("a b", "c d"),
		"%61%3D=%26%3D%25%2B":  params("a=", "&=%+"),
		"%3d":                  params("=", ""),
		"%26=%26":              params("&", "&"),
		"%2541=%2541":          params("%41", "%41"),
		"%00=%00":              params("\x00", "\x00"),
		"\x00=\x01\r\n\x7f":    params("\x00", "\x01\r\n\x7f"),
		"~!/?#;\"\\=<>|[]{}^`": params("~!/?#;\"\\", "<>|[]{}^`"),
		"a;b=c;d":              params("a;b", "c;d"),
		"*-._=*-._":            params("*-._", "*-._"),
	} {
		isParsed(t, s, want)
	}
}

// Further = stand for themselves, ahead of which there is one.
func TestP6_2FurtherSigns(t *testing.T) {
	for s, want := range map[string][]api.Param{
		"a==":         params("a", "="),
		"a=b=c":       params("a", "b=c"),
		"a=b=c=&d==e": params("a", "b=c=", "d", "=e"),
		"a=====":      params("a", "===="),
		"a%3D=b":      params("a=", "b"),
		"a%3D=b=c":    params("a=", "b=c"),
	} {
		isParsed(t, s, want)
	}
}

func TestP6_2EmptyParts(t *testing.T) {
	for s, want := range map[string][]api.Param{
		"&":             nil,
		"&&&":           nil,
		"&a":            params("a", ""),
		"a&":            params("a", ""),
		"&&a=1&&&b=2&&": params("a", "1", "b", "2"),
		"a=&":           params("a", ""),
		"a=1&&b":        params("a", "1", "b", ""),
	} {
		isParsed(t, s, want)
	}
	isParsed(t, strings.Repeat("&", 4096), nil)
	isParsed(t, strings.Repeat("&", 4095)+"a", params("a", ""))
}

// Letters may be told byte by byte, some as they are.
func TestP6_2Letters(t *testing.T) {
	euro := params("\u20ac", "\U0001f600")
	for _, s := range []string{
		"\u20ac=\U0001f600",
		"%E2%82%AC=%F0%9F%98%80",
		"%e2%82%ac=%f0%9f%98%80",
		"\xe2%82\xac=%f0\x9f\x98%80",
		"%E2\x82%aC=\xf0%9F%98\x80",
	} {
		isParsed(t, s, euro)
		isParsed(t, "&"+s+"&", euro)
	}
	for _, letter := range []string{"\x00", "\x7f", "\u0080", "\u07ff", "\u0800", "\ud7ff", "\ue000", "\ufffd", "\uffff", "\U00010000", "\U0010ffff"} {
		isParsed(t, letter+"="+letter, params(letter, letter))
		isParsed(t, refEscape(letter)+"="+refEscape(letter), params(letter, letter))
	}
}

func TestP6_2Long(t *testing.T) {
	isParsed(t, "a="+strings.Repeat("x", 4094), params("a", strings.Repeat("x", 4094)))
	isParsed(t, strings.Repeat("n", 4096), params(strings.Repeat("n", 4096), ""))
	isParsed(t, strings.Repeat("%41", 1365)+"=", params(strings.Repeat("A", 1365), ""))
	for _, s := range []string{
		strings.Repeat("x", 4097),
		"a=" + strings.Repeat("x", 4095),
		strings.Repeat("%41", 1366),
		// Whatever else is wrong.
		strings.Repeat("&", 4097),
		strings.Repeat("%", 4097),
		"=" + strings.Repeat("x", 4096),
		"\xff" + strings.Repeat("x", 4096),
		strings.Repeat("a&", 2049),
		names(numbered(2000)),
		strings.Repeat("a=%\xff&", 1<<18),
	} {
		isWrong(t, s, api.ErrLong, noPlace)
	}
	isWrong(t, strings.Repeat("%", 4096), api.ErrUrl, 0)
	isWrong(t, strings.Repeat("a", 4095)+"%", api.ErrUrl, 4095)
	isWrong(t, strings.Repeat("&", 4095)+"=", api.ErrUrl, 4095)
	isWrong(t, "a="+strings.Repeat("x", 4092)+"&a", api.ErrTwice, 4095)
}

// A % must have its digits within its part, in the name or in the value.
func TestP6_2LooseDigits(t *testing.T) {
	for s, place := range map[string]int{
		"%":                0,
		"a=%4":             2,
		"a=%":              2,
		"a=%4&1":           2,
		"a=%&41":           2,
		"%&41":             0,
		"%4&1":             0,
		"%4=1":             0,
		"%=41":             0,
		"a%=41":            1,
		"a%4=1":            1,
		"a=%4=":            2,
		"a=%zz":            2,
		"a=%4g":            2,
		"a=%g4":            2,
		"a=%+1":            2,
		"a=%1+":            2,
		"a=%%41":           2,
		"a=%41%":           5,
		"a=1&b=%":          6,
		"a=1&%b=":          4,
		"a=1&&&b=%x":       8,
		"&%":               1,
		"a=1&b=2&c=%C3%A":  13,
		"\u20ac=\u20ac%":   7,
		"a=%41&b=%42&c=%4": 14,
	} {
		isWrong(t, s, api.ErrUrl, place)
		isWrong(t, s+"&", api.ErrUrl, place)
		isWrong(t, s+"&%&=&a&a", api.ErrUrl, place)
		isWrong(t, "&x=y&"+s, api.ErrUrl, 5+place)
	}
}

// A part whose name is empty, wherever its = stands.
func TestP6_2NoName(t *testing.T) {
	for s, place := range map[string]int{
		"=":             0,
		"=a":            0,
		"==":            0,
		"==a":           0,
		"=a=b":          0,
		"&=":            1,
		"&&=a&b":        2,
		"a&=":           2,
		"a=1&=2":        4,
		"a=1&=2&=3":     4,
		"\u20ac=1&=":    6,
		"%41%42=1&=%20": 9,
	} {
		isWrong(t, s, api.ErrUrl, place)
		isWrong(t, s+"&%&\xff&a&a", api.ErrUrl, place)
	}
}

// What isn't UTF-8 is told at its part's beginning.
func TestP6_2NotUtf(t *testing.T) {
	for _, none := range []string{
		"\xff", "\x80", "\xc3", "\xc0\x80", "\xe2\x82", "\xed\xa0\x80", "\xed\xbf\xbf", "\xf0\x9f\x98", "\xf4\x90\x80\x80", "\xe2A\x82", "\xa9\xc3",
	} {
		for _, s := range []string{none, refEscape(none), strings.ToLower(refEscape(none)), refEscape(none[:1]) + none[1:], none[:len(none)-1] + refEscape(none[len(none)-1:])} {
			isWrong(t, s, api.ErrUrl, 0)
			isWrong(t, s+"=1", api.ErrUrl, 0)
			isWrong(t, "abc="+s, api.ErrUrl, 0)
			isWrong(t, "abc="+s+"z=z", api.ErrUrl, 0)
			isWrong(t, "abc"+s+"z=1", api.ErrUrl, 0)
			isWrong(t, "a=1&b=2&c="+s, api.ErrUrl, 8)
			isWrong(t, "a=1&b=2&"+s, api.ErrUrl, 8)
			isWrong(t, "a=1&b="+s+"&c="+s, api.ErrUrl, 4)
			isWrong(t, "a=1&&b="+s+"&%&=", api.ErrUrl, 5)
		}
	}
	// A letter's bytes on both sides of a sign are none.
	for _, s := range []string{"%C3=%A9", "\xc3=\xa9", "a=%C3&%A9", "\xe2=\x82\xac", "%C3+%A9", "a=%C3=%A9", "a=\xc3%26\xa9"} {
		isWrong(t, s, api.ErrUrl, 0)
	}
}

// A name that is there already, however each of both is written.
func TestP6_2Twice(t *testing.T) {
	for s, place := range map[string]int{
		"a&a":              2,
		"a=1&a=1":          4,
		"a=1&a=2":          4,
		"a=1&b=2&a=3":      8,
		"a=1&&&a=2":        6,
		"a=1&%61=2":        4,
		"%61=1&a=2":        6,
		"%61&%61":          4,
		"+&%20":            2,
		" &+":              2,
		"a+b&a%20b":        4,
		"%2b&%2B":          4,
		"%C3%A9&\u00e9":    7,
		"\u00e9=1&%c3\xa9": 5,
		"a%3D&a%3d=b":      5,
		"&a&a":             3,
		"a=b&b=a&b=c&a=d":  8,
		"%00&\x00":         4,
	} {
		isWrong(t, s, api.ErrTwice, place)
		isWrong(t, s+"&%&=&\xff", api.ErrTwice, place)
		isWrong(t, "&xyz=1&"+s, api.ErrTwice, 7+place)
	}
}

// 32 parameters may be; parts that are empty are none.
func TestP6_2Many(t *testing.T) {
	full := numbered(32)
	s := names(full)
	isParsed(t, s, full)
	isParsed(t, strings.ReplaceAll(s, "&", "&&")+"&&&", full)
	isParsed(t, strings.ReplaceAll(s, "&", "=&")+"=", full)
	isParsed(t, names(numbered(31)), numbered(31))
	for _, next := range []string{"b", "b=1", "&b", "&&b=%41", "%61", "a32", "A0", "b&", "b&c", "b&b", "b&a0", "b&%", "b&=", "b&\xff"} {
		isWrong(t, s+"&"+next, api.ErrMany, noPlace)
	}
	isWrong(t, names(numbered(500)), api.ErrMany, noPlace)
}

// Of what is wrong in one part the first is told, in the order of the words; of
// what is wrong in several parts that of the first.
func TestP6_2Order(t *testing.T) {
	for s, place := range map[string]int{
		"=%":         1,
		"=abc%":      4,
		"\xff%":      1,
		"\xff=%":     2,
		"a\xff=b%4":  4,
		"=\xff%":     2,
		"a=1&a=%":    6,
		"a=1&a=\xff": 4,
		"a=1&=\xff%": 6,
		"a=1&a\xff":  4,
		"%ff=%f":     4,
		"a=\xff&b=%": 0,
		"=&%":        0,
		"a=%&a":      2,
		"%&=":        0,
	} {
		isWrong(t, s, api.ErrUrl, place)
	}
	isWrong(t, "a&a&%", api.ErrTwice, 2)
	isWrong(t, "a&a&=", api.ErrTwice, 2)
	isWrong(t, "a&%&a", api.ErrUrl, 2)
	full := names(numbered(32))
	isWrong(t, full+"&b%", api.ErrUrl, len(full)+2)
	isWrong(t, full+"&=b", api.ErrUrl, len(full)+1)
	isWrong(t, full+"&b=\xff", api.ErrUrl, len(full)+1)
	isWrong(t, full+"&a7", api.ErrTwice, len(full)+1)
	isWrong(t, full+"&&%61%37=1", api.ErrTwice, len(full)+2)
	isWrong(t, full+"&a31", api.ErrTwice, len(full)+1)
	isWrong(t, full+"&a7=%", api.ErrUrl, len(full)+4)
}

// Each byte put in the place of each of a text's, and between them.
func TestP6_2EachByteAtEachPlace(t *testing.T) {
	text := "&a=1+2&b%3d==%C3%a9&&%20\u20ac&c"
	for i := range len(text) {
		for c := range 256 {
			asReference(t, text[:i]+string([]byte{byte(c)})+text[i+1:])
			asReference(t, text[:i]+string([]byte{byte(c)})+text[i:])
		}
		asReference(t, text[:i])
		asReference(t, text[i:])
		asReference(t, text[:i]+text[i+1:])
	}
}

// All short texts of a few signs.
func TestP6_2ShortTexts(t *testing.T) {
	signs := "&=%+a6\xc3"
	texts := []string{""}
	for first := 0; len(texts[first]) < 6; first++ {
		for i := range len(signs) {
			texts = append(texts, texts[first]+signs[i:i+1])
		}
	}
	for _, s := range texts {
		asReference(t, s)
	}
}

// Pieces put together without a rule, some beyond the limits.
func TestP6_2AsReference(t *testing.T) {
	chance := rand.New(rand.NewPCG(6, 2))
	pieces := []string{"&", "&", "&", "=", "=", "+", "%", "%4", "%41", "%c3%A9", "%C3", "\xa9", "\xff", "a", "b", "c", "\u20ac", " ", "%20", "%3D", "%26"}
	for range 60000 {
		s := ""
		for range chance.IntN(12) {
			s += pieces[chance.IntN(len(pieces))]
		}
		asReference(t, s)
	}
	for range 3000 {
		s := anyText(chance, anyParams(chance, 50))
		asReference(t, s)
		if i := chance.IntN(len(s) + 1); i < len(s) {
			asReference(t, s[:i]+pieces[chance.IntN(len(pieces))]+s[i:])
			asReference(t, s[:i]+s[i+1:])
		}
	}
}

// Each answer, each fault is a value of its own: who changes one changes no
// other.
func TestP6_2AnswersApart(t *testing.T) {
	first, _ := urlenc.Parse("a=1&b=2")
	second, _ := urlenc.Parse("a=1&b=2")
	if len(first) != 2 || len(second) != 2 {
		t.Fatal("Parse: no parameters")
	}
	first[0], first[1] = api.Param{Name: "x"}, api.Param{}
	if second[0] != (api.Param{Name: "a", Val: "1"}) || second[1] != (api.Param{Name: "b", Val: "2"}) {
		t.Error("two answers share memory")
	}
	isParsed(t, "a=1&b=2", params("a", "1", "b", "2"))
	var one, other *api.At
	_, err := urlenc.Parse("a=%")
	_, again := urlenc.Parse("a=%")
	if !errors.As(err, &one) || !errors.As(again, &other) {
		t.Fatal("Parse: no place")
	}
	one.Pos = 7
	if other.Pos != 2 {
		t.Error("two faults are one")
	}
	isWrong(t, "a=%", api.ErrUrl, 2)
}
