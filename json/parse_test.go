package json_test

import (
	"bytes"
	"errors"
	"fmt"
	"math/rand/v2"
	"slices"
	"strings"
	"testing"

	"warrant/api"
	"warrant/json"
)

func TestP5_1Known(t *testing.T) {
	for s, want := range map[string]api.Json{
		"null":                           null(),
		"true":                           truth(1),
		"false":                          truth(0),
		"0":                              number(0),
		"7":                              number(7),
		"-1":                             number(-1),
		"10":                             number(10),
		"9007199254740991":               number(api.MaxInt),
		"-9007199254740991":              number(-api.MaxInt),
		`""`:                             text(""),
		`"a"`:                            text("a"),
		`" a "`:                          text(" a "),
		"\"\u20ac\u00e9\U0001f600\x7f\"": text("\u20ac\u00e9\U0001f600\x7f"),
		`"[{]},:"`:                       text("[{]},:"),
		"[]":                             list(),
		"{}":                             object(),
		"[null]":                         list(null()),
		"[1,-2,true,[],{},\"\"]":         list(number(1), number(-2), truth(1), list(), object(), text("")),
		"[[[]],[]]":                      list(list(list()), list()),
		`{"a":1}`:                        object("a", number(1)),
		`{"":null}`:                      object("", null()),
		`{"b":1,"a":[true,"\u20ac"]}`:    object("a", list(truth(1), text("\u20ac")), "b", number(1)),
		`{"a":{"a":{"a":{}}}}`:           object("a", object("a", object("a", object()))),
		`[{"a":1},{"a":2}]`:              list(object("a", number(1)), object("a", number(2))),
		`{"a":{"x":1},"b":{"x":2}}`:      object("a", object("x", number(1)), "b", object("x", number(2))),
		`{"\u00e9":1,"z":2,"Z":3,"":4,"zz":5,"\uffff":6,"\ud800\udc00":7}`: object("", number(4), "Z", number(3), "z", number(2), "zz", number(5), "\u00e9", number(1), "\uffff", number(6), "\U00010000", number(7)),
	} {
		isParsed(t, s, want)
	}
}

// Blanks may stand around each sign, within none.
func TestP5_1Blanks(t *testing.T) {
	signs := []string{"{", `"b"`, ":", "[", "1", ",", "-20", ",", "null", "]", ",", `"a"`, ":", "{", "}", ",", `"c"`, ":", "[", "]", ",", `"d"`, ":", "true", "}"}
	want := object("a", object(), "b", list(number(1), number(-20), null()), "c", list(), "d", truth(1))
	isParsed(t, strings.Join(signs, ""), want)
	for _, blank := range []string{"\t", "\n", "\r", " ", " \t\r\n \n"} {
		isParsed(t, blank+strings.Join(signs, blank)+blank, want)
		for i := range len(signs) + 1 {
			isParsed(t, strings.Join(signs[:i], "")+blank+strings.Join(signs[i:], ""), want)
		}
	}
	place := 0
	for i, sign := range signs {
		for _, other := range []string{"\x00", "\x08", "\x0b", "\x0c", "\x1f", "\u00a0", "\u2028", "\ufeff", "\\", "/", "#"} {
			isWrong(t, strings.Join(signs[:i], "")+other+strings.Join(signs[i:], ""), api.ErrJson, place)
		}
		place += len(sign)
	}
	for s, place := range map[string]int{"nu ll": 2, "t rue": 1, "- 1": 1, "1 0": 2, "\"a\nb\"": 2, "\"\t\"": 1, `"\ n"`: 2, `"\u 041"`: 3} {
		isWrong(t, s, api.ErrJson, place)
	}
}

// What is no value, or isn't ended, or goes on behind its end.
func TestP5_1Wrong(t *testing.T) {
	for s, place := range map[string]int{
		"":                0,
		" ":               1,
		"\n\n\t ":         4,
		"nul":             3,
		"nulL":            3,
		"Null":            0,
		"nope":            1,
		"tru":             3,
		"tRue":            1,
		"truex":           4,
		"true false":      5,
		"fals":            4,
		"falsy":           4,
		"nulltrue":        4,
		"1 2":             2,
		"1,":              1,
		"]":               0,
		"}":               0,
		",":               0,
		":":               0,
		"[":               1,
		"[ ":              2,
		"[1":              2,
		"[1 ":             3,
		"[1,":             3,
		"[1,]":            3,
		"[,1]":            1,
		"[,]":             1,
		"[1,,2]":          3,
		"[1 2]":           3,
		"[1:2]":           2,
		"[1}":             2,
		"[}":              1,
		"[1]]":            3,
		"[1.5]":           2,
		"[] []":           3,
		"{":               1,
		"{]":              1,
		"{,}":             1,
		"{:1}":            1,
		"{1:2}":           1,
		"{null:2}":        1,
		"{a:2}":           1,
		"{'a':2}":         1,
		"{[]:1}":          1,
		`{"a"`:            4,
		`{"a"}`:           4,
		`{"a",1}`:         4,
		`{"a" 1}`:         5,
		`{"a"::1}`:        5,
		`{"a":`:           5,
		`{"a":}`:          5,
		`{"a":,}`:         5,
		`{"a":1`:          6,
		`{"a":1 `:         7,
		`{"a":1,`:         7,
		`{"a":1,}`:        7,
		`{"a":1,,"b":1}`:  7,
		`{"a":1 "b":1}`:   7,
		`{"a":1;"b":1}`:   6,
		`{"a":1]`:         6,
		`{"a":1}}`:        7,
		`{"a":1,"b"}`:     10,
		`{"a":1,"b":}`:    11,
		`{"a":1,2:"b"}`:   7,
		`{"a`:             3,
		"{\"a\n\":1}":     3,
		"{\"a\xff\":1}":   3,
		`{"\x":1}`:        3,
		`{"\ud800":1}`:    2,
		"/* */1":          0,
		"1//":             1,
		"'a'":             0,
		"\xef\xbb\xbf1":   0,
		"1\x00":           1,
		"\x00":            0,
		"\xff":            0,
		"NaN":             0,
		"Infinity":        0,
		"undefined":       0,
		"[1]\x1a":         3,
		"[true,false,nil": 13,
	} {
		isWrong(t, s, api.ErrJson, place)
	}
}

func TestP5_1Numbers(t *testing.T) {
	for s, place := range map[string]int{
		"-":         1,
		"- ":        1,
		"-0":        1,
		"-00":       1,
		"-01":       1,
		"-0.5":      1,
		"-a":        1,
		"--1":       1,
		"-+1":       1,
		"-]":        1,
		"-\"":       1,
		"-\xff":     1,
		"[-":        2,
		"[-]":       2,
		"[1,-]":     4,
		"[-0]":      2,
		"[0,-0,1]":  4,
		"+1":        0,
		".5":        0,
		"00":        1,
		"01":        1,
		"007":       1,
		"0x10":      1,
		"0-":        1,
		"1.5":       1,
		"1.":        1,
		"1e5":       1,
		"1E5":       1,
		"1_000":     1,
		"1-1":       1,
		"1+1":       1,
		"12a":       2,
		"-12-":      3,
		"-12.0":     3,
		"10\"a\"":   2,
		"1[":        1,
		"1{":        1,
		"1n":        1,
		"1\u0662":   1,
		"\u0661":    0,
		"\uff11":    0,
		"\u22121":   0,
		"[0,01]":    4,
		"[1.0]":     2,
		"{\"a\":-}": 6,
	} {
		isWrong(t, s, api.ErrJson, place)
	}
	for _, n := range []int64{0, 1, -1, 9, 10, -10, 1 << 31, -1 << 31, 1 << 52, api.MaxInt - 1, api.MaxInt, 1 - api.MaxInt, -api.MaxInt} {
		isParsed(t, fmt.Sprint(n), number(n))
		isParsed(t, fmt.Sprint("[", n, ",", n, "]"), list(number(n), number(n)))
	}
}

// Beyond what may be, and where: at a number's first byte, its sign too.
func TestP5_1Over(t *testing.T) {
	for _, s := range []string{
		"9007199254740992", "9007199254740993", "-9007199254740992", "-9007199254740993", "10000000000000000", "-10000000000000000",
		"9223372036854775807", "9223372036854775808", "-9223372036854775808", "-9223372036854775809",
		"18446744073709551615", "18446744073709551616", "18446744073709551617", "-18446744073709551617", "36893488147419103233",
		"1" + strings.Repeat("0", 64), strings.Repeat("9", 4090), "-" + strings.Repeat("9", 4089),
	} {
		isWrong(t, s, api.ErrOver, 0)
		isWrong(t, "  "+s, api.ErrOver, 2)
		isWrong(t, "[1,"+s, api.ErrOver, 3)
		// What is wrong behind a number's beginning comes later.
		isWrong(t, s+".5", api.ErrOver, 0)
		isWrong(t, s+"x", api.ErrOver, 0)
		isWrong(t, s+s[:1], api.ErrOver, 0)
		if len(s) < 100 {
			isWrong(t, "["+s+","+s+"]", api.ErrOver, 1)
			isWrong(t, `{"a":`+s+`,"a":1}`, api.ErrOver, 5)
			isWrong(t, `{"a":1,"a":`+s+`}`, api.ErrTwice, 7)
			isWrong(t, `["\x",`+s+`]`, api.ErrJson, 3)
			isWrong(t, "0"+s, api.ErrJson, 1)
		}
	}
}

// All of a \ and one byte behind it.
func TestP5_1SignsBehindABackslash(t *testing.T) {
	letters := map[byte]string{'"': "\"", '\\': "\\", '/': "/", 'b': "\x08", 'f': "\x0c", 'n': "\x0a", 'r': "\x0d", 't': "\x09"}
	for c := range 256 {
		sign := string([]byte{byte(c)})
		if letter, may := letters[byte(c)]; may {
			isParsed(t, `"\`+sign+`"`, text(letter))
			isParsed(t, `"a\`+sign+`b"`, text("a"+letter+"b"))
			isParsed(t, `{"\`+sign+`":"\`+sign+`"}`, object(letter, text(letter)))
			isWrong(t, `"\`+sign, api.ErrJson, 3)
		} else if c == 'u' {
			isWrong(t, `"\u"`, api.ErrJson, 3)
			isWrong(t, `"\u`, api.ErrJson, 3)
		} else {
			isWrong(t, `"\`+sign+`"`, api.ErrJson, 2)
			isWrong(t, `"a\`+sign+`b"`, api.ErrJson, 3)
			isWrong(t, `"a\n\`+sign, api.ErrJson, 5)
		}
	}
	isWrong(t, `"\`, api.ErrJson, 2)
	isWrong(t, `"ab\`, api.ErrJson, 4)
	isWrong(t, `"\\\`, api.ErrJson, 4)
	isWrong(t, `"\"`, api.ErrJson, 3)
	isParsed(t, `"\\\"\\"`, text(`\"\`))
	isParsed(t, `"\/\b\f\n\r\t"`, text("/\x08\x0c\x0a\x0d\x09"))
}

// Every code, with digits of each kind.
func TestP5_1Codes(t *testing.T) {
	for n := range 0x10000 {
		for _, digits := range []string{fmt.Sprintf("%04x", n), fmt.Sprintf("%04X", n)} {
			if 55296 <= n && n <= 57343 {
				isWrong(t, `"\u`+digits+`"`, api.ErrJson, 1)
				isWrong(t, `["\n\u`+digits+`"]`, api.ErrJson, 4)
			} else {
				isParsed(t, `"\u`+digits+`"`, text(string(rune(n))))
			}
		}
	}
	isParsed(t, `"\uabCD\uAbcDx\u00411"`, text("\uabcd\uabcdxA1"))
	isParsed(t, `"\u0000\u001f\u007f"`, text("\x00\x1f\x7f"))
}

// A code must have four digits, and the first byte that is none is told.
func TestP5_1CodesWrong(t *testing.T) {
	for have := range 4 {
		digits := "00e9"[:have]
		isWrong(t, `"\u`+digits, api.ErrJson, 3+have)
		isWrong(t, `"\u`+digits+`"`, api.ErrJson, 3+have)
		isWrong(t, `"\u`+digits+`\u00e9"`, api.ErrJson, 3+have)
		for c := range 256 {
			sign := string([]byte{byte(c)})
			if !strings.Contains("0123456789abcdefABCDEF", sign) {
				isWrong(t, `"\u`+digits+sign+`0000"`, api.ErrJson, 3+have)
				isWrong(t, `["a","\ud83d\ude00\u`+digits+sign+`0000"]`, api.ErrJson, 20+have)
			}
		}
	}
	isWrong(t, `"\uD8"`, api.ErrJson, 5)
	isWrong(t, `"\uD80g"`, api.ErrJson, 6)
	isWrong(t, `"\udc0x"`, api.ErrJson, 6)
	isWrong(t, `"\U0041"`, api.ErrJson, 2)
	isWrong(t, `"\x41"`, api.ErrJson, 2)
}

func TestP5_1Pairs(t *testing.T) {
	for high := 0xd800; high <= 0xdbff; high++ {
		for _, low := range []int{0xdc00, 0xdc01, 0xde00, 0xdfff} {
			want := 65536 + (high-0xd800)*1024 + low - 0xdc00
			isParsed(t, fmt.Sprintf(`"\u%x\u%X"`, high, low), text(string(rune(want))))
		}
		isWrong(t, fmt.Sprintf(`"\u%x"`, high), api.ErrJson, 1)
	}
	for low := 0xdc00; low <= 0xdfff; low++ {
		isParsed(t, fmt.Sprintf(`"\uD83d\u%x"`, low), text(string(rune(0x1f400+low-0xdc00))))
		isWrong(t, fmt.Sprintf(`"\u%x\ud800"`, low), api.ErrJson, 1)
	}
	for n := range 0x10000 {
		if n < 0xdc00 || n > 0xdfff {
			isWrong(t, fmt.Sprintf(`"\ud83d\u%04x"`, n), api.ErrJson, 1)
		}
	}
}

// Of the first code of a pair its \ is told, whatever is wrong behind it.
func TestP5_1PairsWrong(t *testing.T) {
	for _, behind := range []string{
		"", "a", `"`, `\`, `\"`, `\n"`, `\x`, `\u`, `\u"`, `\ud`, `\udc`, `\udc0`, `\udc0"`, `\udc0g"`, `\ud800\udc00"`,
		`\u0041"`, `\ue000"`, `\udbff"`, `/udc00"`, `\Udc00"`, ` \udc00"`, "\xff", "\n", "\xed\xb0\x80", `\\udc00"`, "\x00",
	} {
		isWrong(t, `"\ud800`+behind, api.ErrJson, 1)
		isWrong(t, `"\uDBFF`+behind, api.ErrJson, 1)
		isWrong(t, `"\ud83d\ude00\ud83d`+behind, api.ErrJson, 13)
		isWrong(t, `{"\u20ac\ud83d`+behind, api.ErrJson, 8)
		isWrong(t, `"\udc00`+behind, api.ErrJson, 1)
		isWrong(t, `"x\uDFFF`+behind, api.ErrJson, 2)
	}
	isParsed(t, `"\ud7ff\ue000\ud800\udc00\udbff\udfff"`, text("\ud7ff\ue000\U00010000\U0010ffff"))
}

// Within quotes: each byte below 32, and bytes that are no letter's.
func TestP5_1WithinQuotes(t *testing.T) {
	for c := range 32 {
		isWrong(t, `"`+string(rune(c))+`"`, api.ErrJson, 1)
		isWrong(t, `["ab`+string(rune(c))+`"]`, api.ErrJson, 4)
	}
	for c := 32; c < 128; c++ {
		if c != '"' && c != '\\' {
			isParsed(t, `"`+string(rune(c))+`"`, text(string(rune(c))))
		}
	}
	for _, none := range []string{
		"\x80", "\xbf", "\xc0\x80", "\xc1\xbf", "\xc3", "\xe0\x80\x80", "\xe2\x82", "\xed\xa0\x80", "\xed\xbf\xbf",
		"\xf0\x80\x80\x80", "\xf0\x9f\x98", "\xf4\x90\x80\x80", "\xf5\x80\x80\x80", "\xff", "\xe2\x41\x82",
	} {
		isWrong(t, `"`+none+`"`, api.ErrJson, 1)
		isWrong(t, `"`+none, api.ErrJson, 1)
		isWrong(t, "\"\u20aca"+none+"\"", api.ErrJson, 5)
		isWrong(t, `"\n`+none+"\n", api.ErrJson, 3)
		isWrong(t, `"`+none+`\x"`, api.ErrJson, 1)
		isWrong(t, `"\u20ac`+none+`","`, api.ErrJson, 7)
		isWrong(t, `{"a":1,"`+none+`":2}`, api.ErrJson, 8)
	}
	for _, letter := range []string{"\u0080", "\u07ff", "\u0800", "\ud7ff", "\ue000", "\ufffd", "\uffff", "\U00010000", "\U0010ffff"} {
		isParsed(t, `"`+letter+`"`, text(letter))
		isParsed(t, `{"`+letter+`":"\n`+letter+letter+`"}`, object(letter, text("\n"+letter+letter)))
	}
}

// 256 values may be, the 257th may not begin; names are none.
func TestP5_1Many(t *testing.T) {
	nulls := strings.TrimSuffix(strings.Repeat("null,", 255), ",")
	isParsed(t, "["+nulls+"]", list(many(255)...))
	isParsed(t, "["+strings.Repeat("[],", 254)+"1]", list(append(slices.Repeat([]api.Json{list()}, 254), number(1))...))
	end := 1 + len(nulls)
	for _, first := range []string{"null", "null]", "nope", "true", "t", "false", "f]", `"a"`, `"`, `"\x`, "[", "[]", "{", "{}", "-", "-1", "-0", "0", "01", "99999999999999999999"} {
		isWrong(t, "["+nulls+","+first, api.ErrMany, end+1)
		isWrong(t, "["+nulls+" , "+first, api.ErrMany, end+3)
	}
	for _, none := range []string{"]", "}", ",", ":", "N", "+1", ".5", "x", "\x00", "\xff", "'", ""} {
		isWrong(t, "["+nulls+","+none, api.ErrJson, end+1)
	}
	isWrong(t, "["+nulls+" null", api.ErrJson, end+1)
	isWrong(t, "["+nulls+"]null", api.ErrJson, end+1)
	isWrong(t, "["+nulls, api.ErrJson, end)
	var members []string
	want := object()
	for i := range 255 {
		name := fmt.Sprintf("%03d", i)
		members = append(members, `"`+name+`":0`)
		want.K, want.L = append(want.K, name), append(want.L, number(0))
	}
	all := strings.Join(members, ",")
	isParsed(t, "{"+all+"}", want)
	isWrong(t, "{"+all+`,"x":0}`, api.ErrMany, 1+len(all)+5)
	isWrong(t, "{"+all+`,"000":0}`, api.ErrTwice, 1+len(all)+1)
	isWrong(t, "{"+all+`,"x"`, api.ErrJson, 1+len(all)+4)
	// Values that are ended count, too, at each depth.
	isParsed(t, "["+strings.Repeat(`[[1]],`, 84)+"[1,1]]", list(append(slices.Repeat([]api.Json{list(list(number(1)))}, 84), list(number(1), number(1)))...))
	isWrong(t, "["+strings.Repeat(`[[1]],`, 84)+"[1,1,1]]", api.ErrMany, 1+84*6+5)
	isWrong(t, "["+strings.Repeat(`[[1]],`, 85)+"1]", api.ErrMany, 1+85*6)
}

func TestP5_1Deep(t *testing.T) {
	isParsed(t, "[[[[[[[[]]]]]]]]", within(list(), 7))
	isParsed(t, "[[[[[[[[1,null,\"[[\",2]]]]]]]]", within(list(number(1), null(), text("[["), number(2)), 7))
	isParsed(t, `[[[[[[[{"a":"{","b":1}]]]]]]]`, within(object("a", text("{"), "b", number(1)), 7))
	isParsed(t, strings.Repeat(`{"a":`, 8)+"1"+strings.Repeat("}", 8), func() api.Json {
		v := number(1)
		for range 8 {
			v = object("a", v)
		}
		return v
	}())
	isWrong(t, "[[[[[[[[[]]]]]]]]]", api.ErrDeep, 8)
	isWrong(t, "[[[[[[[[{}]]]]]]]]", api.ErrDeep, 8)
	isWrong(t, "[[[[[[[[1, [", api.ErrDeep, 11)
	isWrong(t, "[[[[[[[[[", api.ErrDeep, 8)
	isWrong(t, strings.Repeat("[", 4096), api.ErrDeep, 8)
	isWrong(t, strings.Repeat(`{"a":`, 9), api.ErrDeep, 40)
	isWrong(t, strings.Repeat(`{"a": `, 8)+" [", api.ErrDeep, 49)
	isWrong(t, `[{"a":[{"a":[{"a":[{"a":{`, api.ErrDeep, 24)
	// What was ended isn't around what comes.
	isParsed(t, "[[[[[[[[]]]]]]],[[[[[[[1]]]]]]]]", list(within(list(), 6), within(number(1), 7)))
	isWrong(t, "[[[[[[[[]]]]]]],[[[[[[[[1]]]]]]]]]", api.ErrDeep, 23)
	isWrong(t, "[[[[[[[[x", api.ErrJson, 8)
	// Where a value is one too many besides, that is told.
	seven, nulls := strings.Repeat("[", 7), strings.Repeat("null,", 247)
	for _, first := range []string{"[", "{"} {
		isWrong(t, seven+"["+nulls+first, api.ErrDeep, 8+len(nulls))
		isWrong(t, seven+"[null,"+nulls+first, api.ErrMany, 13+len(nulls))
		isWrong(t, seven+"["+first+"null,"+nulls+"null,"+first, api.ErrDeep, 8)
	}
	isWrong(t, "[[[[[[[[]]]]]]]", api.ErrJson, 15)
}

func TestP5_1Twice(t *testing.T) {
	for s, place := range map[string]int{
		`{"a":1,"a":2}`:                         7,
		`{"a":1,"a":1}`:                         7,
		`{"":1,"":2}`:                           6,
		`{"a":1,"b":2,"a":3}`:                   13,
		`{"a":1,"b":2,"b":3,"a":4}`:             13,
		`{"a":1, "a":2}`:                        8,
		"{\"a\":1,\n\t \"a\"":                   10,
		`{"a":1,"\u0061":2}`:                    7,
		`{"\u0061":1,"a":2}`:                    12,
		`{"\ud83d\ude00":1,"` + "\U0001f600\"}": 18,
		`{"\/":1,"/":2}`:                        8,
		`{"\n":1,"\u000A":2}`:                   8,
		`{"a":1,"a"`:                            7,
		`{"a":1,"a"x`:                           7,
		`{"a":1,"a":`:                           7,
		`{"a":1,"a":x}`:                         7,
		`{"a":[{"b":1,"b":2}]}`:                 13,
		`{"a":{"a":1},"a":2}`:                   13,
		`{"a":{"a":1,"a":2},"a":3}`:             12,
		`[{"a":1},{"a":1,"a":2}]`:               16,
	} {
		isWrong(t, s, api.ErrTwice, place)
	}
	// A name that isn't ended is none.
	isWrong(t, `{"a":1,"a`, api.ErrJson, 9)
	isWrong(t, `{"a":1,"a\x"`, api.ErrJson, 10)
	isWrong(t, "{\"a\":1,\"a\n\"", api.ErrJson, 9)
	isWrong(t, `{"a":x,"a":1}`, api.ErrJson, 5)
	isParsed(t, `{"a":1,"A":2,"aa":3," a":4,"a ":5}`, object(" a", number(4), "A", number(2), "a", number(1), "a ", number(5), "aa", number(3)))
	isParsed(t, `{"\u00e9":1,"e\u0301":2}`, object("e\u0301", number(2), "\u00e9", number(1)))
}

// MaxJson bytes may be; of one more nothing else is asked.
func TestP5_1Long(t *testing.T) {
	for _, s := range []string{"1", "[]", `{"a":1}`} {
		v, _ := json.Parse([]byte(s))
		blanks := strings.Repeat(" ", api.MaxJson-len(s))
		isParsed(t, blanks+s, v)
		isParsed(t, s+blanks, v)
		isWrong(t, " "+blanks+s, api.ErrLong, noPlace)
		isWrong(t, s+blanks+"\n", api.ErrLong, noPlace)
	}
	long := strings.Repeat("a", api.MaxJson-2)
	isParsed(t, `"`+long+`"`, text(long))
	isWrong(t, `"`+long+`a"`, api.ErrLong, noPlace)
	isWrong(t, `"`+long+`a`, api.ErrJson, api.MaxJson)
	isWrong(t, strings.Repeat(" ", api.MaxJson), api.ErrJson, api.MaxJson)
	isWrong(t, strings.Repeat(" ", api.MaxJson)+" ", api.ErrLong, noPlace)
	isWrong(t, strings.Repeat("x", api.MaxJson+1), api.ErrLong, noPlace)
	isWrong(t, strings.Repeat("[", 1<<20), api.ErrLong, noPlace)
	isWrong(t, strings.Repeat("\xff", 1<<24), api.ErrLong, noPlace)
	letters := strings.Repeat(`\u20ac`, 682)
	isParsed(t, `"`+letters+`"`, text(strings.Repeat("\u20ac", 682)))
}

func TestP5_1Nil(t *testing.T) {
	v, err := json.Parse(nil)
	if show(v) != show(null()) {
		t.Errorf("Parse(nil): %s", show(v))
	}
	isError(t, "Parse(nil)", err, api.ErrJson, 0)
}

// sample has something of all that a text may have.
const sample = ` {"b" :[1,-20 , true,{ } ,[]],"\u20ac\n":null,` + "\t\"\u00e9\U0001f600\"" + `:"\ud83d\ude00\\", "": { "x":false }}` + "\r\n"

// Each beginning of a text, and a text without its beginning.
func TestP5_1Cut(t *testing.T) {
	if _, err := json.Parse([]byte(sample)); err != nil {
		t.Fatalf("Parse(%q): %+v", sample, err)
	}
	for i := range len(sample) {
		asReference(t, sample[:i])
		asReference(t, sample[i:])
	}
	whole := `{"a":[true,null,"x\n\u0041",{"b":-10}],"c":false`
	for i := range len(whole) + 1 {
		isWrong(t, whole[:i], api.ErrJson, i)
	}
}

// Every byte, put in the place of each of a text's, and ahead of it.
func TestP5_1EachByteAtEachPlace(t *testing.T) {
	for i := range len(sample) {
		for c := range 256 {
			sign := string([]byte{byte(c)})
			asReference(t, sample[:i]+sign+sample[i+1:])
			asReference(t, sample[:i]+sign+sample[i:])
		}
	}
}

// All texts of at most two bytes, and all of a few signs of some.
func TestP5_1Short(t *testing.T) {
	for i := range 256 {
		asReference(t, string([]byte{byte(i)}))
		for j := range 256 {
			asReference(t, string([]byte{byte(i), byte(j)}))
		}
	}
	asAll(t, []string{"[", "]", "{", "}", ",", ":", `"`, "0", "-", "1", " ", "null"}, 5)
	asAll(t, []string{"[", "]", "{", "}", ",", ":", `"a"`, `"b"`, "1"}, 6)
	asAll(t, []string{`\`, "u", "d800", "dc00", "0041", `"`, "n"}, 6)
}

// asAll tells a test that Parse of all texts of at most so many signs must be
// as the reference, as they are and within quotes.
func asAll(t *testing.T, signs []string, most int) {
	t.Helper()
	all := []string{""}
	for range most {
		var longer []string
		for _, s := range all {
			for _, sign := range signs {
				longer = append(longer, s+sign)
			}
		}
		for _, s := range longer {
			asReference(t, s)
			if slices.Contains(signs, `\`) {
				asReference(t, `"`+s+`"`)
			}
		}
		all = longer
	}
}

// Texts put together without a rule, about all limits.
func TestP5_1AsReference(t *testing.T) {
	chance := rand.New(rand.NewPCG(5, 1))
	pieces := []string{
		"[", "[", "]", "]", "{", "}", ",", ",", ":", " ", "\n", "null", "true", "false", "nul", "0", "1", "-", "-7", "01", "1.5",
		"9007199254740991", "9007199254740992", "-9007199254740992", "99999999999999999999", `"a"`, `"a":`, `"b":`, `"b"`, `"`, `"\u0061":`,
		`"\n"`, `"\ud83d\ude00"`, `\ud83d`, `\udc00`, `\u00`, `\x`, "\u20ac", "\xe2\x82", "\xff", "[[[[[[[", "]]]]]]]", `{"a":{"b":[{"a":`, "}]}}",
		strings.Repeat("[],", 120), strings.Repeat("null,", 254), strings.Repeat(" ", 2000),
	}
	for range 100000 {
		s := ""
		for range chance.IntN(14) {
			s += pieces[chance.IntN(len(pieces))]
		}
		asReference(t, s)
	}
}

// Right texts, with a few bytes changed, put in or taken out.
func TestP5_1NearlyRight(t *testing.T) {
	chance := rand.New(rand.NewPCG(5, 2))
	signs := "[]{},:\"\\ -0123456789ntfuabde\n\x00\x1f\x80\xe2\xff"
	for range 100000 {
		b := []byte(anyText(chance, anyValue(chance, 1+chance.IntN(8))))
		for range 1 + chance.IntN(3) {
			place := chance.IntN(len(b))
			c := signs[chance.IntN(len(signs))]
			switch chance.IntN(3) {
			case 0:
				b[place] = c
			case 1:
				b = slices.Insert(b, place, c)
			case 2:
				b = slices.Delete(b, place, place+1)
			}
			if len(b) == 0 {
				break
			}
		}
		asReference(t, string(b))
	}
}

func TestP5_1ArgumentStays(t *testing.T) {
	room := []byte(sample + `,"c":"more"}`)
	kept := bytes.Clone(room)
	v, err := json.Parse(room[:len(sample)])
	if err != nil {
		t.Fatalf("Parse: %+v", err)
	}
	want := show(v)
	json.Parse(room)
	json.Parse(room[1:])
	if !bytes.Equal(room, kept) {
		t.Error("Parse changed its argument")
	}
	for i := range room {
		room[i] = 'z'
	}
	if show(v) != want {
		t.Error("the value hangs on the argument's memory")
	}
}

// What was told is the caller's: no list of it shares memory with another one.
func TestP5_1AnswersApart(t *testing.T) {
	v, err := json.Parse([]byte(sample))
	if err != nil {
		t.Fatalf("Parse: %+v", err)
	}
	grow(t, &v, &v)
	w, _ := json.Parse([]byte(sample))
	before := show(w)
	spoil(&v)
	if show(w) != before {
		t.Error("two values share memory")
	}
	isWrong(t, "[1.5]", api.ErrJson, 2)
	_, one := json.Parse([]byte("[1.5]"))
	_, two := json.Parse([]byte("[1.5]"))
	var first, second *api.At
	if !errors.As(one, &first) || !errors.As(two, &second) || first == second {
		t.Fatal("two faults are one")
	}
	first.Pos = 77
	isWrong(t, "[1.5]", api.ErrJson, 2)
}

// grow puts more behind each list of v, and tells a test that whole must stay.
func grow(t *testing.T, whole, v *api.Json) {
	t.Helper()
	before := show(*whole)
	_ = append(v.L, text("more"))
	_ = append(v.K, "more")
	if show(*whole) != before {
		t.Errorf("a list of %s lies behind another", before)
	}
	for i := range v.L {
		grow(t, whole, &v.L[i])
	}
}

// spoil changes all that v has.
func spoil(v *api.Json) {
	for i := range v.L {
		spoil(&v.L[i])
	}
	for i := range v.K {
		v.K[i] += "spoilt"
	}
	v.Kind, v.N, v.S = v.Kind+1, v.N+1, v.S+"spoilt"
}
