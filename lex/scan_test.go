package lex_test

import (
	"math/rand/v2"
	"strings"
	"testing"
	"unicode/utf8"

	"warrant/api"
	"warrant/lex"
)

func TestP11_1Known(t *testing.T) {
	isScanned(t, "permit when time <= -7; # x", toks(
		word("permit", 0), word("when", 7), word("time", 12), sign("<=", 17), number(-7, 20), sign(";", 22), end(27)))
	isScanned(t, "permit when;", toks(word("permit", 0), word("when", 7), sign(";", 11), end(12)))
	isScanned(t, `permit scope "read" when claim("age") >= 18 and not subject = owner;`, toks(
		word("permit", 0), word("scope", 7), text("read", 13), word("when", 20), word("claim", 25), sign("(", 30), text("age", 31), sign(")", 36),
		sign(">=", 38), number(18, 41), word("and", 44), word("not", 48), word("subject", 52), sign("=", 60), word("owner", 62), sign(";", 67), end(68)))
	isScanned(t, "", toks(end(0)))
	isScanned(t, " \n", toks(end(2)))
	isScanned(t, "# no token;", toks(end(11)))
	isScanned(t, "x#\ny", toks(word("x", 0), word("y", 3), end(4)))
	isScanned(t, `a1"b"2<c`, toks(word("a", 0), number(1, 1), text("b", 2), number(2, 5), sign("<", 6), word("c", 7), end(8)))
	isScanned(t, `[1,"",a_]`, toks(sign("[", 0), number(1, 1), sign(",", 2), text("", 3), sign(",", 5), word("a_", 6), sign("]", 8), end(9)))
}

// The kinds are those numbers that the document tells.
func TestP11_1Kinds(t *testing.T) {
	if api.TWord != 1 || api.TText != 2 || api.TInt != 3 || api.TSign != 4 || api.TEnd != 5 || api.TokMax != 512 || api.MaxName != 32 || api.MaxPolicy != 2048 || api.MaxInt != maxInt {
		t.Error("package api isn't what was given")
	}
}

// Each byte alone, and among others of each kind.
func TestP11_1EachByte(t *testing.T) {
	begins := 0
	for c := range 256 {
		s := oneByte(c)
		switch {
		case isOneOf(c, "abcdefghijklmnopqrstuvwxyz_"):
			isScanned(t, s, toks(word(s, 0), end(1)))
			begins++
		case isOneOf(c, "0123456789"):
			isScanned(t, s, toks(number(int64(c-'0'), 0), end(1)))
			begins++
		case isOneOf(c, "()[],;=<>"):
			isScanned(t, s, toks(sign(s, 0), end(1)))
			begins++
		case isOneOf(c, "\t\n\r #"):
			isScanned(t, s, toks(end(1)))
		case c == '"':
			isWrong(t, s, api.ErrLex, 1)
			begins++
		default:
			isWrong(t, s, api.ErrLex, 0)
		}
		for _, other := range []string{"a", "z_", "0", "7", "-7", "-", "!", "<", "=", ">", `"`, `"a"`, `"\`, `"é`, "(", ";", " ", "#", "#\n", "\n", "\xc3", "\xe2\x82"} {
			asReference(t, s+other)
			asReference(t, other+s)
			asReference(t, other+s+other)
			asReference(t, other+s+`"`)
			asReference(t, "permit "+other+s+" ; # x\n")
		}
	}
	if begins != 27+10+9+1 {
		t.Errorf("tokens begin with %d bytes", begins)
	}
}

// All texts of two bytes, and those of three and four of some.
func TestP11_1Small(t *testing.T) {
	for c := range 1 << 16 {
		asReference(t, string([]byte{byte(c >> 8), byte(c)}))
	}
	few := []string{"a", "_", "A", "0", "7", "-", "!", "<", "=", ">", "(", `"`, `\`, "#", "\n", " ", "\x0b", "\xc3", "\xa9", "é"}
	for _, a := range few {
		for _, b := range few {
			for _, c := range few {
				asReference(t, a+b+c)
				for _, d := range few {
					asReference(t, a+b+c+d)
				}
			}
		}
	}
}

func TestP11_1Words(t *testing.T) {
	for n := 1; n <= 100; n++ {
		for _, c := range "amz_" {
			s := times(string(c), n)
			if n <= 32 {
				isScanned(t, s, toks(word(s, 0), end(n)))
				isScanned(t, "7 "+s+"9", toks(number(7, 0), word(s, 2), number(9, 2+n), end(3+n)))
			} else {
				isWrong(t, s, api.ErrLex, 0)
				isWrong(t, "7 "+s+"9", api.ErrLex, 2)
				isWrong(t, "x;"+s, api.ErrLex, 2)
			}
		}
	}
	isWrong(t, times("a", 2048), api.ErrLex, 0)
	most := "abcdefghijklmnopqrstuvwxyz_zyxwv"
	isScanned(t, most, toks(word(most, 0), end(32)))
	isWrong(t, most+"_", api.ErrLex, 0)
	isWrong(t, most+" "+most+"a", api.ErrLex, 33)
	isScanned(t, most+"=", toks(word(most, 0), sign("=", 32), end(33)))
	isScanned(t, most+"\n"+most, toks(word(most, 0), word(most, 33), end(65)))
	isScanned(t, most+"#"+most, toks(word(most, 0), end(65)))
	isWrong(t, most+"A", api.ErrLex, 32)
	isWrong(t, most+"-", api.ErrLex, 32)
	isWrong(t, "Permit", api.ErrLex, 0)
	isWrong(t, "permiT", api.ErrLex, 5)
	isWrong(t, "permit.when", api.ErrLex, 6)
	isWrong(t, "a:b", api.ErrLex, 1)
	isWrong(t, "caf\u00e9", api.ErrLex, 3)
	isScanned(t, "_ __ a_b", toks(word("_", 0), word("__", 2), word("a_b", 5), end(8)))
}

func TestP11_1Blanks(t *testing.T) {
	for _, s := range []string{" ", "\t", "\n", "\r", "\r\n", " \t\n\r", times(" ", 1000), "#\n", "# a\n", "#a#b\n", "# \"\n", "#\\\n", "# \r x\n", "#\x00\x01\xff\xc3\n", "# é€\n", "\n#\n#\n", times("#\n", 500)} {
		n := len(s)
		isScanned(t, s, toks(end(n)))
		isScanned(t, s+"a", toks(word("a", n), end(n+1)))
		isScanned(t, "a"+s+"b", toks(word("a", 0), word("b", 1+n), end(2+n)))
		isScanned(t, "<"+s+"="+s, toks(sign("<", 0), sign("=", 1+n), end(2+2*n)))
		isScanned(t, "1"+s+"2"+s+"-3", toks(number(1, 0), number(2, 1+n), number(-3, 2+2*n), end(4+2*n)))
		isScanned(t, `"a"`+s+`"b"`, toks(text("a", 0), text("b", 3+n), end(6+n)))
		isWrong(t, "a"+s+"!"+s+"=", api.ErrLex, 1+n)
		isWrong(t, s+"-"+s+"7", api.ErrLex, n)
	}
	for _, s := range []string{"#", "##", "# a", "# \r", "# permit when;", "#\"", "#\xff\x00", "#" + times("!", 1000)} {
		isScanned(t, s, toks(end(len(s))))
		isScanned(t, "a"+s, toks(word("a", 0), end(1+len(s))))
		isScanned(t, "a"+s+"\n;", toks(word("a", 0), sign(";", 2+len(s)), end(3+len(s))))
	}
	for _, s := range []string{"\x00", "\x0b", "\x0c", "\x1f", "\x7f", "\x85", "\xa0", "\u0085", "\u00a0", "\u2028", "\u3000", "\ufeff", "\b", "//", "/*", "--", "'", "`", "$", "@", "&", "|", "*", "+", "/", ".", ":", "?", "^", "~", "{", "}", "\\", "%"} {
		isWrong(t, s, api.ErrLex, 0)
		isWrong(t, "a "+s+" b", api.ErrLex, 2)
		isWrong(t, "a"+s, api.ErrLex, 1)
		isScanned(t, "#"+s+"\na", toks(word("a", 2+len(s)), end(3+len(s))))
	}
}

func TestP11_1Texts(t *testing.T) {
	for _, c := range []struct{ inside, says string }{
		{"", ""}, {"a", "a"}, {" ", " "}, {"permit when;", "permit when;"}, {"#", "#"}, {"# x ", "# x "}, {"a\u00e9\u20ac\U0001f600", "a\u00e9\u20ac\U0001f600"},
		{`\"`, `"`}, {`\\`, `\`}, {`\\\\`, `\\`}, {`\\\"`, `\"`}, {`\"\\`, `"\`}, {`a\"b\\c`, `a"b\c`}, {`\\n`, `\n`}, {`\"\"\"`, `"""`}, {`\"#`, `"#`},
		{"\x7f", "\x7f"}, {"\u0080", "\u0080"}, {"\u0085", "\u0085"}, {"\u2028", "\u2028"}, {"\ufffd", "\ufffd"}, {"\ufeff", "\ufeff"}, {"'", "'"}, {"/", "/"}, {"%", "%"},
		{times("x", 2046), times("x", 2046)}, {times(`\\`, 1023), times(`\`, 1023)}, {times(`\"`, 1023), times(`"`, 1023)}, {times("\u20ac", 682), times("\u20ac", 682)},
	} {
		isScanned(t, `"`+c.inside+`"`, toks(text(c.says, 0), end(len(c.inside)+2)))
		if n := len(c.inside); n < 2000 {
			isScanned(t, `"`+c.inside+`""`+c.inside+`"a`, toks(text(c.says, 0), text(c.says, n+2), word("a", 2*n+4), end(2*n+5)))
		}
	}
	for c := range 256 {
		s := oneByte(c)
		switch {
		case isOneOf(c, `"\`):
			isScanned(t, `"a\`+s+`b"`, toks(text("a"+s+"b", 0), end(6)))
		default:
			isWrong(t, `"a\`+s+`b"`, api.ErrLex, 3)
			isWrong(t, `"\`+s, api.ErrLex, 2)
		}
		switch {
		case isOneOf(c, `"\`):
		case c < 32 || c > 127:
			isWrong(t, `"a`+s+`b"`, api.ErrLex, 2)
			isWrong(t, `"`+s+`"`, api.ErrLex, 1)
			isWrong(t, `"\"\\`+s, api.ErrLex, 5)
		default:
			isScanned(t, `"a`+s+`b"`, toks(text("a"+s+"b", 0), end(5)))
		}
	}
}

// Each letter within quotes.
func TestP11_1EachLetter(t *testing.T) {
	for c := rune(32); c <= utf8.MaxRune; c++ {
		if s := string(c); c != '"' && c != '\\' && utf8.ValidRune(c) {
			l, err := lex.Scan(`"` + s + `"`)
			if err != nil || !isSame(l, toks(text(s, 0), end(2+len(s)))) {
				t.Fatalf("Scan of the letter %d within quotes: %v, %v", c, l, err)
			}
		}
	}
}

func TestP11_1TextsThatAreWrong(t *testing.T) {
	for _, s := range []string{`"`, `"a`, `"a b`, `"\"`, `"\\`, `"\\\"`, `"\`, `"a\`, `"\\\`, `"é`, `"#`, `"# x;`, `"a" "`, `"""a" "b`, `"` + times("a", 2047)} {
		isWrong(t, s, api.ErrLex, len(s))
		if len(s) < 2000 {
			isWrong(t, " a1 "+s, api.ErrLex, 4+len(s))
		}
	}
	for _, c := range []struct {
		s     string
		place int
	}{
		{"\"\n\"", 1}, {"\"a\tb\"", 2}, {"\"ab\r", 3}, {"\"ab\x00", 3}, {"\"\x1f\"", 1}, {"\"a\nb", 2}, {"a \"b\" \"c\n\"", 8},
		{`"\n"`, 2}, {`"\/"`, 2}, {`"\u0041"`, 2}, {`"a\tb"`, 3}, {"\"\\\n\"", 2}, {`"\é"`, 2}, {"\"\\\xff\"", 2}, {`"\ "`, 2}, {`"\'"`, 2}, {`"\\\a"`, 4}, {"\"\\\x00", 2},
		{"\"\xff\"", 1}, {"\"a\x80\"", 2}, {"\"\xc3\"", 1}, {"\"\xc3", 1}, {"\"\xe2\x82\"", 1}, {"\"\xe2\x82", 1}, {"\"\xf0\x9f\x98\"", 1}, {"\"\xf0\x9f\x98", 1}, {"\"a\xc3\xa9\xa9\"", 4},
		{"\"\xc0\x80\"", 1}, {"\"\xc1\xbf\"", 1}, {"\"\xe0\x9f\xbf\"", 1}, {"\"\xed\xa0\x80\"", 1}, {"\"\xed\xbf\xbf\"", 1}, {"\"\xf0\x8f\xbf\xbf\"", 1}, {"\"\xf4\x90\x80\x80\"", 1}, {"\"\xf5\x80\x80\x80\"", 1},
		{"\"é\xe9\"", 3}, {"\"€\xe2\x82\\\"", 4}, {"\"\xc3\\\"", 1}, {"\"\xff\n", 1}, {"\"\n\xff", 1}, {"\"\\x\xff\"", 2}, {"\"a\xff\\x\"", 2}, {"\"\\\"\xff", 3},
	} {
		isWrong(t, c.s, api.ErrLex, c.place)
		isWrong(t, "a "+c.s, api.ErrLex, 2+c.place)
		isWrong(t, `"\\"`+c.s+"! 9007199254740992", api.ErrLex, 4+c.place)
	}
}

func TestP11_1Numbers(t *testing.T) {
	for _, c := range []struct {
		s string
		n int64
	}{
		{"0", 0}, {"1", 1}, {"-1", -1}, {"9", 9}, {"10", 10}, {"-10", -10}, {"4294967296", 1 << 32}, {"-2147483649", -1<<31 - 1},
		{"9007199254740990", maxInt - 1}, {"9007199254740991", maxInt}, {"-9007199254740990", 1 - maxInt}, {"-9007199254740991", -maxInt},
	} {
		n := len(c.s)
		isScanned(t, c.s, toks(number(c.n, 0), end(n)))
		isScanned(t, "a"+c.s+"a", toks(word("a", 0), number(c.n, 1), word("a", 1+n), end(2+n)))
		isScanned(t, "("+c.s+";", toks(sign("(", 0), number(c.n, 1), sign(";", 1+n), end(2+n)))
		isScanned(t, c.s+"-1", toks(number(c.n, 0), number(-1, n), end(2+n)))
		isScanned(t, "0"+c.s, append(toks(number(0, 0)), number(c.n, 1), end(1+n)))
	}
	for _, s := range []string{
		"9007199254740992", "-9007199254740992", "9007199254740993", "90071992547409910", "10000000000000000", "-10000000000000000", "9223372036854775807", "9223372036854775808",
		"-9223372036854775808", "-9223372036854775809", "18446744073709551615", "18446744073709551616", "18446744073709551617", "-18446744073709551617", "1" + times("0", 100), "-" + times("9", 2047), times("9", 2048),
	} {
		isWrong(t, s, api.ErrOver, 0)
		if len(s) < 2000 {
			isWrong(t, "a <= "+s, api.ErrOver, 5)
			isWrong(t, "a"+s+"!", api.ErrOver, 1)
			isWrong(t, "-1 -"+strings.TrimPrefix(s, "-"), api.ErrOver, 3)
		}
	}
	isScanned(t, "007", toks(number(0, 0), number(0, 1), number(7, 2), end(3)))
	isScanned(t, "0123", toks(number(0, 0), number(123, 1), end(4)))
	isScanned(t, "09007199254740991", toks(number(0, 0), number(maxInt, 1), end(17)))
	isWrong(t, "09007199254740992", api.ErrOver, 1)
	isScanned(t, "1-2", toks(number(1, 0), number(-2, 1), end(3)))
	isScanned(t, "-1-2", toks(number(-1, 0), number(-2, 2), end(4)))
	isScanned(t, times("0", 512), append(zeros(512), end(512)))
	for _, s := range []string{"-", "-0", "-00", "-01", "--1", "- 1", "-a", "-_", "-(", "-\n1", "-#", "-\"", "-.5", "+1", "-+1", "-\xff"} {
		isWrong(t, s, api.ErrLex, 0)
		isWrong(t, "7"+s, api.ErrLex, 1)
		isWrong(t, "time <= "+s, api.ErrLex, 8)
	}
	isWrong(t, "1.5", api.ErrLex, 1)
	isWrong(t, "1E5", api.ErrLex, 1)
	isScanned(t, "1e5", toks(number(1, 0), word("e", 1), number(5, 2), end(3)))
	isWrong(t, "\u0661", api.ErrLex, 0)
	isWrong(t, "\uff11", api.ErrLex, 0)
}

// zeros are n numbers 0, one behind the other.
func zeros(n int) []api.Tok {
	var l []api.Tok
	for i := range n {
		l = append(l, number(0, i))
	}
	return l
}

func TestP11_1Signs(t *testing.T) {
	for _, s := range allSigns {
		n := len(s)
		isScanned(t, s, toks(sign(s, 0), end(n)))
		isScanned(t, "a"+s+"b", toks(word("a", 0), sign(s, 1), word("b", 1+n), end(2+n)))
		isScanned(t, s+"-1", toks(sign(s, 0), number(-1, n), end(2+n)))
		isScanned(t, s+`""`+s, toks(sign(s, 0), text("", n), sign(s, n+2), end(2*n+2)))
		isScanned(t, s+"#"+s, toks(sign(s, 0), end(2*n+1)))
		isScanned(t, s+" "+s, toks(sign(s, 0), sign(s, n+1), end(2*n+1)))
		isWrong(t, s+"!", api.ErrLex, n)
		for _, other := range allSigns {
			asReference(t, s+other)
			for _, third := range allSigns {
				asReference(t, s+other+third)
			}
		}
	}
	isScanned(t, "==", toks(sign("=", 0), sign("=", 1), end(2)))
	isScanned(t, "=<", toks(sign("=", 0), sign("<", 1), end(2)))
	isScanned(t, "=>", toks(sign("=", 0), sign(">", 1), end(2)))
	isScanned(t, "<>", toks(sign("<", 0), sign(">", 1), end(2)))
	isScanned(t, "<<=", toks(sign("<", 0), sign("<=", 1), end(3)))
	isScanned(t, "<==", toks(sign("<=", 0), sign("=", 2), end(3)))
	isScanned(t, ">>==", toks(sign(">", 0), sign(">=", 1), sign("=", 3), end(4)))
	isScanned(t, "!==", toks(sign("!=", 0), sign("=", 2), end(3)))
	isScanned(t, "=!=", toks(sign("=", 0), sign("!=", 1), end(3)))
	isScanned(t, "< =", toks(sign("<", 0), sign("=", 2), end(3)))
	isScanned(t, "<#\n=", toks(sign("<", 0), sign("=", 3), end(4)))
	for _, s := range []string{"!", "! =", "!!=", "!<", "!>", "!(", "!a", "!\n=", "!#\n=", "!\"=\"", "!\xff"} {
		isWrong(t, s, api.ErrLex, 0)
		isWrong(t, "a != b "+s, api.ErrLex, 7)
	}
	isWrong(t, "=!", api.ErrLex, 1)
	isWrong(t, "<!", api.ErrLex, 1)
}

func TestP11_1Long(t *testing.T) {
	isScanned(t, times(" ", 2048), toks(end(2048)))
	isScanned(t, "#"+times("x", 2047), toks(end(2048)))
	isScanned(t, times("\n", 2047)+"a", toks(word("a", 2047), end(2048)))
	isScanned(t, "a"+times(" ", 2046)+";", toks(word("a", 0), sign(";", 2047), end(2048)))
	isWrong(t, times(" ", 2047)+"!", api.ErrLex, 2047)
	isWrong(t, times("-", 2048), api.ErrLex, 0)
	for _, n := range []int{2049, 2050, 4096, 1 << 16, 1<<16 + 2048, 1 << 20} {
		for _, s := range []string{" ", "\n", "#", "a", "!", "9", "(", `"`, "\xff", "\x00", "-"} {
			isWrong(t, times(s, n), api.ErrLong, noPlace)
		}
		isWrong(t, "a"+times(" ", n-1), api.ErrLong, noPlace)
		isWrong(t, "! "+times("#", n-2), api.ErrLong, noPlace)
		isWrong(t, times(";", 600)+times(" ", n-600), api.ErrLong, noPlace)
	}
	// Bytes are counted, not letters.
	isWrong(t, `"`+times("\u00e9", 1024)+`"`, api.ErrLong, noPlace)
	isScanned(t, `"`+times("\u00e9", 1023)+`"`, toks(text(times("\u00e9", 1023), 0), end(2048)))
}

// So many tokens of one text, each with a gap behind it.
func isMany(t *testing.T, s string, tok api.Tok, gap string) {
	t.Helper()
	step := len(s) + len(gap)
	var l []api.Tok
	for i := range 512 {
		tok.Pos = i * step
		l = append(l, tok)
	}
	all := times(s+gap, 512)
	if len(all) > 2040 {
		t.Fatalf("%q is too long", s+gap)
	}
	n := len(all)
	isScanned(t, all, append(l, end(n)))
	isScanned(t, all+" # x", append(l, end(n+4)))
	isScanned(t, times(s+gap, 511), append(l[:511:511], end(511*step)))
	isWrong(t, all+s, api.ErrMany, n)
	isWrong(t, all+" "+s, api.ErrMany, n+1)
	isWrong(t, all+"#\n"+s+" ", api.ErrMany, n+2)
	for _, other := range []string{";", "=", "<=", "a", "7", "-7", `""`, "a!", `""!`, "7\xff", "a ;", ";;;;;;;;", "; !", "0-", "=!", "a\x00"} {
		isWrong(t, all+" "+other, api.ErrMany, n+1)
	}
	for _, wrong := range []string{"!", "-", "-0", "A", "\xff", "\x00", "$", "! ;"} {
		isWrong(t, all+" "+wrong, api.ErrLex, n+1)
	}
}

func TestP11_1Many(t *testing.T) {
	isMany(t, "a", word("a", 0), " ")
	isMany(t, "a", word("a", 0), "#\n")
	isMany(t, "7", number(7, 0), "\n")
	isMany(t, "0", number(0, 0), "")
	isMany(t, "-7", number(-7, 0), "")
	isMany(t, ";", sign(";", 0), "")
	isMany(t, "<=", sign("<=", 0), "\t")
	isMany(t, "=", sign("=", 0), "\r")
	isMany(t, `""`, text("", 0), "")
	isMany(t, `"x"`, text("x", 0), "")
	isScanned(t, times(";", 512)+times(" ", 1536), append(many(512), end(2048)))
	isWrong(t, times(";", 2048), api.ErrMany, 512)
	isWrong(t, times(";", 513), api.ErrMany, 512)
	isWrong(t, times(" ", 1535)+times(";", 513), api.ErrMany, 2047)
	// What is wrong with the token itself comes first.
	all := times(";", 512)
	isWrong(t, all+times("a", 32), api.ErrMany, 512)
	isWrong(t, all+times("a", 33), api.ErrLex, 512)
	isWrong(t, all+"9007199254740991", api.ErrMany, 512)
	isWrong(t, all+" -9007199254740992", api.ErrOver, 513)
	isWrong(t, all+`"abc`, api.ErrLex, 516)
	isWrong(t, all+"\"a\nc\"", api.ErrLex, 514)
	isWrong(t, all+`"a\c"`, api.ErrLex, 515)
	isWrong(t, all+"\"a\xff\"", api.ErrLex, 514)
	isWrong(t, all+`"a"!`, api.ErrMany, 512)
	// What is wrong with one ahead of it, too.
	isWrong(t, times(";", 511)+"!"+all, api.ErrLex, 511)
	isWrong(t, "9007199254740992"+all+";", api.ErrOver, 0)
	isWrong(t, times(";", 510)+"\"\x01\""+all, api.ErrLex, 511)
}

// many are n signs, one behind the other.
func many(n int) []api.Tok {
	var l []api.Tok
	for i := range n {
		l = append(l, sign(";", i))
	}
	return l
}

// The first of several faults, from the left.
func TestP11_1First(t *testing.T) {
	faults := []struct {
		s     string
		no    api.Errno
		place int
	}{
		{"!", api.ErrLex, 0}, {"-", api.ErrLex, 0}, {"A", api.ErrLex, 0}, {"\xff", api.ErrLex, 0}, {times("a", 33), api.ErrLex, 0}, {"\"\x00\"", api.ErrLex, 1},
		{"\"ab\xff\"", api.ErrLex, 3}, {`"a\bc"`, api.ErrLex, 3}, {"9007199254740992", api.ErrOver, 0}, {"-9007199254740992", api.ErrOver, 0},
	}
	for _, one := range faults {
		for _, other := range faults {
			for _, ahead := range []string{"", " ", "permit ", "# x\n", `"\\" ;`} {
				isWrong(t, ahead+one.s+" "+other.s, one.no, len(ahead)+one.place)
				isWrong(t, ahead+one.s+"\n;"+other.s+` "`, one.no, len(ahead)+one.place)
			}
		}
	}
}

// Texts of right tokens, and of such with something done to them, against the
// reference.
func TestP11_1AsReference(t *testing.T) {
	chance := rand.New(rand.NewPCG(11, 1))
	right := 0
	for range 40000 {
		s := anyPolicy(chance, 12)
		for range chance.IntN(4) {
			s = spoiled(chance, s)
		}
		asReference(t, s)
		if _, no, _ := refScan(s); no == 0 {
			right++
		}
	}
	if right < 10000 || right > 35000 {
		t.Errorf("%d were right", right)
	}
}

// Texts about as long, and with about as many tokens, as may be.
func TestP11_1AsReferenceGreat(t *testing.T) {
	chance := rand.New(rand.NewPCG(11, 11))
	told := map[api.Errno]int{}
	for range 3000 {
		s := ""
		if chance.IntN(2) == 0 {
			s = times(anyOf(chance, ";", "=", "<= ", "7 ", "a ", `""`, "a#\n", " -1"), 480+chance.IntN(40))
		}
		for len(s) < 1900 && chance.IntN(60) > 0 {
			s += anyPolicy(chance, 6)
		}
		if chance.IntN(3) == 0 {
			s = spoiled(chance, s)
		}
		if chance.IntN(3) == 0 {
			s += times(" ", max(0, 2047+chance.IntN(3)-len(s)))
		}
		asReference(t, s)
		_, no, _ := refScan(s)
		told[no]++
	}
	for _, no := range []api.Errno{0, api.ErrLex, api.ErrMany, api.ErrLong} {
		if told[no] < 100 {
			t.Errorf("too few of %d: %v", no, told)
		}
	}
}

func TestP11_1NoMemoryShared(t *testing.T) {
	chance := rand.New(rand.NewPCG(11, 111))
	for range 2000 {
		s := anyPolicy(chance, 12)
		l, err := lex.Scan(s)
		if err != nil {
			t.Fatalf("Scan(%q): %v", s, err)
		}
		for i, tok := range l {
			if len(tok.S) > 1 { // the library has those of one byte
				isOutside(t, tok.S, s)
				for _, other := range l[:i] {
					isOutside(t, tok.S, other.S)
				}
			}
		}
		again, _ := lex.Scan(s)
		for i := range l {
			l[i] = api.Tok{}
		}
		isScanned(t, s, again)
	}
}
