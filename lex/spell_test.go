package lex_test

import (
	"math"
	"math/rand/v2"
	"testing"
	"unicode/utf8"

	"warrant/api"
	"warrant/lex"
)

func TestP11_2QuoteKnown(t *testing.T) {
	for _, c := range []struct{ s, quoted string }{
		{"", `""`}, {"a", `"a"`}, {" ", `" "`}, {`"`, `"\""`}, {`\`, `"\\"`}, {`a"b\c`, `"a\"b\\c"`}, {`""`, `"\"\""`}, {`\"`, `"\\\""`}, {`\\`, `"\\\\"`}, {`"a"`, `"\"a\""`},
		{"permit when;", `"permit when;"`}, {"#", `"#"`}, {"/", `"/"`}, {"'", `"'"`}, {`\n`, `"\\n"`}, {"read", `"read"`}, {"A-Z 0.9", `"A-Z 0.9"`},
		{"\x7f", "\"\x7f\""}, {"\u0080", "\"\u0080\""}, {"\u00e9\u20ac\U0001f600", "\"\u00e9\u20ac\U0001f600\""}, {"\ufffd", "\"\ufffd\""}, {"\ufeff", "\"\ufeff\""}, {"\u2028", "\"\u2028\""},
		{times("a", 2048), `"` + times("a", 2048) + `"`}, {times(`"`, 70000), `"` + times(`\"`, 70000) + `"`}, {times("\u20ac", 1<<20), `"` + times("\u20ac", 1<<20) + `"`},
	} {
		isQuoted(t, c.s, c.quoted)
	}
	for _, s := range []string{
		"\n", "a\nb", "\t", "\r\n", "\x00", "a\x00", "\x1f", "\" \x01", "\xff", "a\xff", "\x80", "\xc3", "a\xe2\x82", "\xc3\xa9\xa9", "\xc0\x80", "\xc1\xbf", "\xe0\x9f\xbf", "\xed\xa0\x80", "\xed\xbf\xbf",
		"\xf0\x8f\xbf\xbf", "\xf4\x90\x80\x80", "\xf5\x80\x80\x80", "\xff\n", "\n\xff", times("a", 5000) + "\n", times("a", 5000) + "\xff", "\xff" + times("a", 5000), "\n" + times("a", 5000), "\\\xff", "\"\n",
	} {
		isNotQuoted(t, s)
	}
}

func TestP11_2QuoteEachByte(t *testing.T) {
	for c := range 256 {
		s := oneByte(c)
		for _, around := range [][2]string{{"", ""}, {"a", "b"}, {`"`, `\`}, {`\`, `"`}, {"\u20ac", "\u00e9"}, {"", "\xa9"}, {"\xc3", ""}, {"\xe2", "\xac"}, {"\xe2\x82", ""}, {"\xf0\x9f\x98", "x"}} {
			whole := around[0] + s + around[1]
			if want, fits := refQuote(whole); fits {
				isQuoted(t, whole, want)
			} else {
				isNotQuoted(t, whole)
			}
		}
		switch {
		case c == '"' || c == '\\':
			isQuoted(t, s, `"\`+s+`"`)
		case c >= 32 && c < 128:
			isQuoted(t, s, `"`+s+`"`)
		default:
			isNotQuoted(t, s)
			isNotQuoted(t, "ab"+s)
			isNotQuoted(t, s+"ab")
		}
	}
	for c := range 1 << 16 {
		s := string([]byte{byte(c >> 8), byte(c)})
		want, fits := refQuote(s)
		if got, right := lex.Quote(s); got != want || right != fits {
			t.Errorf("Quote(%q): %q, %v, not %q, %v", s, got, right, want, fits)
		}
	}
}

func TestP11_2QuoteEachLetter(t *testing.T) {
	for c := rune(32); c <= utf8.MaxRune; c++ {
		if s := string(c); c != '"' && c != '\\' && utf8.ValidRune(c) {
			if got, fits := lex.Quote(s); !fits || got != `"`+s+`"` {
				t.Fatalf("Quote of the letter %d: %q, %v", c, got, fits)
			}
		}
	}
}

func TestP11_2SpellWords(t *testing.T) {
	for n := 1; n <= 100; n++ {
		for _, c := range "az_m" {
			s := times(string(c), n)
			if n <= 32 {
				isSpelled(t, word(s, 0), s)
			} else {
				isSpelled(t, word(s, 0), "")
			}
		}
	}
	for _, s := range []string{"permit", "a_b", "_", "__", "abcdefghijklmnopqrstuvwxyz_zyxwv", "and", "true", "claim"} {
		isSpelled(t, word(s, 0), s)
	}
	for _, s := range []string{"", " ", "A", "Permit", "permiT", "a b", " a", "a ", "a\n", "\na", "a#", "a1", "1a", "1", "-1", "a-b", "a.b", "a:b", "caf\u00e9", "a\x00", "a\xff", `"a"`, `"`, "(", "<=", ";", "a;", "!", times("a", 33), times("a", 1<<20)} {
		isSpelled(t, word(s, 0), "")
	}
	for c := range 256 {
		s := oneByte(c)
		for _, whole := range []string{s, "a" + s, s + "z", "_" + s + "_", times("q", 31) + s, s + times("q", 31)} {
			if isOneOf(c, "abcdefghijklmnopqrstuvwxyz_") {
				isSpelled(t, word(whole, 0), whole)
			} else {
				isSpelled(t, word(whole, 0), "")
			}
		}
		isSpelled(t, word(times("q", 32)+s, 0), "")
	}
}

func TestP11_2SpellNumbers(t *testing.T) {
	for _, c := range []struct {
		n int64
		s string
	}{
		{0, "0"}, {1, "1"}, {-1, "-1"}, {10, "10"}, {-10, "-10"}, {1234567890123456, "1234567890123456"}, {maxInt, "9007199254740991"}, {-maxInt, "-9007199254740991"}, {maxInt - 1, "9007199254740990"}, {1 - maxInt, "-9007199254740990"},
		{maxInt + 1, ""}, {-maxInt - 1, ""}, {maxInt + 2, ""}, {1 << 62, ""}, {-1 << 62, ""}, {math.MaxInt64, ""}, {math.MaxInt64 - 1, ""}, {math.MinInt64, ""}, {math.MinInt64 + 1, ""},
	} {
		isSpelled(t, number(c.n, 0), c.s)
	}
}

func TestP11_2SpellSigns(t *testing.T) {
	for _, s := range allSigns {
		isSpelled(t, sign(s, 0), s)
		for _, other := range append([]string{" ", "\n", "#", "a", "1", "!", "-", `"`, "\x00", "\xff"}, allSigns...) {
			for _, both := range []string{s + other, other + s} {
				isSpelled(t, sign(both, 0), refSpell(sign(both, 0)))
			}
		}
	}
	right := 0
	for c := range 1 << 16 {
		first, both := oneByte(c>>8), string([]byte{byte(c >> 8), byte(c)})
		isSpelled(t, sign(both, 0), refSpell(sign(both, 0)))
		if c&255 == 0 {
			isSpelled(t, sign(first, 0), refSpell(sign(first, 0)))
		}
		if lex.Spell(sign(both, 0)) != "" {
			right++
		}
	}
	if right != 3 {
		t.Errorf("%d signs have two bytes", right)
	}
	for _, s := range []string{"", " ", "!", "a", "permit", "1", "-", "-1", `""`, "==", "=>", "<>", "!==", "<==", "<= ", " <=", "((", "()", "#", ".", ":", "{", "}", "+", "&&", "||", "\u2264", "\uff08", times("=", 1<<16), times("(", 1<<16)} {
		isSpelled(t, sign(s, 0), "")
	}
}

// A token's text hangs on what its kind says, whatever else is there, and on
// no place.
func TestP11_2SpellFields(t *testing.T) {
	for _, pos := range []int{0, 1, -1, 7, 2048, math.MaxInt, math.MinInt} {
		isSpelled(t, word("a", pos), "a")
		isSpelled(t, text("a", pos), `"a"`)
		isSpelled(t, number(-7, pos), "-7")
		isSpelled(t, sign("<=", pos), "<=")
		isSpelled(t, end(pos), "")
	}
	for _, kind := range []int{0, 5, 6, 7, 8, -1, -2, 256 + 1, 1<<32 + 1, 1<<32 + 4, math.MaxInt, math.MinInt} {
		for _, s := range []string{"", "a", "permit", "(", "<=", `"a"`, "7"} {
			for _, n := range []int64{0, 1, -7, math.MinInt64} {
				isSpelled(t, api.Tok{Kind: kind, S: s, N: n}, "")
			}
		}
	}
}

func TestP11_2SpellAny(t *testing.T) {
	chance := rand.New(rand.NewPCG(11, 2))
	right := 0
	for range 50000 {
		tok := anyTok(chance)
		switch chance.IntN(4) {
		case 0:
			tok.S = spoiled(chance, tok.S)
		case 1:
			tok.Kind = chance.IntN(7)
		case 2:
			tok.N = int64(chance.Uint64()) >> chance.IntN(64)
		}
		want := refSpell(tok)
		isSpelled(t, tok, want)
		if want != "" {
			right++
		}
	}
	if right < 10000 || right > 49000 {
		t.Errorf("%d were right", right)
	}
}

func TestP11_2Join(t *testing.T) {
	isJoined(t, nil, "")
	isJoined(t, toks(), "")
	isJoined(t, toks(end(0)), "")
	isJoined(t, toks(end(0), api.Tok{}, word("A", 0), sign("!", 0), text("\n", 0), number(maxInt+1, 0)), "")
	isJoined(t, toks(word("a", 0)), "a")
	isJoined(t, toks(word("a", 0), end(1)), "a")
	isJoined(t, toks(end(0), word("a", 0)), "a")
	isJoined(t, toks(word("a", 0), word("b", 0)), "a b")
	isJoined(t, toks(word("a", 0), end(0), end(0), word("b", 0), end(0)), "a b")
	isJoined(t, toks(text("", 0)), `""`)
	isJoined(t, toks(text("", 0), text("", 0)), `"" ""`)
	isJoined(t, toks(text(" ", 0), text("\xff", 0), text(`"`, 0), word("", 0)), `" " "\""`)
	isJoined(t, toks(word("x", 9), sign("<", 3), sign("=", 3), number(-7, -1), sign(";", 0), number(0, 0), number(0, 0), sign("(", 0), sign(")", 0), end(0)), "x < = -7 ; 0 0 ( )")
	isJoined(t, toks(word("permit", 0), word("when", 7), word("time", 12), sign("<=", 17), number(-7, 20), sign(";", 22), end(27)), "permit when time <= -7 ;")
	var l []api.Tok
	for range 50000 {
		l = append(l, word("a", 0), end(0), sign("<=", 0))
	}
	isJoined(t, l, times("a <= ", 49999)+"a <=")
}

func TestP11_2JoinAny(t *testing.T) {
	chance := rand.New(rand.NewPCG(11, 22))
	for range 5000 {
		var l []api.Tok
		want := ""
		for range chance.IntN(12) {
			tok := anyTok(chance)
			if chance.IntN(4) == 0 {
				tok.Kind = chance.IntN(7)
			}
			if chance.IntN(4) == 0 {
				tok.S = spoiled(chance, tok.S)
			}
			l = append(l, tok)
			if s := refSpell(tok); want == "" || s == "" {
				want += s
			} else {
				want += " " + s
			}
		}
		was := append(toks(), l...)
		isJoined(t, l, want)
		if !isSame(l, was) {
			t.Errorf("Join changed %s into %s", show(was), show(l))
		}
	}
}

func TestP11_2NoMemoryShared(t *testing.T) {
	long := times("ab_", 10)
	for _, tok := range []api.Tok{word(long, 0), text(long, 0), sign(string([]byte(">=")), 0)} {
		isOutside(t, lex.Spell(tok), tok.S)
		isOutside(t, lex.Join(toks(tok)), tok.S)
		isOutside(t, lex.Join(toks(end(0), tok, end(0))), tok.S)
	}
	quoted, _ := lex.Quote(long)
	isOutside(t, quoted, long)
}
