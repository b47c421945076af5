package urlenc_test

import (
	"fmt"
	"math/rand/v2"
	"strings"
	"testing"

	"warrant/urlenc"
)

func TestP6_1EscapeKnown(t *testing.T) {
	for s, want := range map[string]string{
		"":                  "",
		"abcXYZ019":         "abcXYZ019",
		"*-._":              "*-._",
		"~":                 "%7E",
		" ":                 "+",
		"a b&":              "a+b%26",
		"1 + 2 = 3":         "1+%2B+2+%3D+3",
		"100%":              "100%25",
		"%41":               "%2541",
		"\u00e9":            "%C3%A9",
		"\u20ac":            "%E2%82%AC",
		"\U0001f600":        "%F0%9F%98%80",
		"\x00\x01\t\r\n":    "%00%01%09%0D%0A",
		"\xff\xc3":          "%FF%C3",
		"a/b?c#d;e,f:g@h!":  "a%2Fb%3Fc%23d%3Be%2Cf%3Ag%40h%21",
		"(')$\"<>[]\\^`{}|": "%28%27%29%24%22%3C%3E%5B%5D%5C%5E%60%7B%7D%7C",
	} {
		if got := urlenc.Escape(s); got != want {
			t.Errorf("Escape(%q): %q, not %q", s, got, want)
		}
	}
}

// Each byte, alone and between others.
func TestP6_1EscapeEachByte(t *testing.T) {
	itself := 0
	for c := range 256 {
		s := string([]byte{byte(c)})
		want := refEscape(s)
		if want == s {
			itself++
		}
		for _, ends := range [][2]string{{"", ""}, {"a", "z"}, {" ", "%"}, {"\xff", "+"}} {
			text, want := ends[0]+s+ends[1], refEscape(ends[0])+want+refEscape(ends[1])
			if got := urlenc.Escape(text); got != want {
				t.Errorf("Escape(%q): %q, not %q", text, got, want)
			}
		}
	}
	if itself != 66 {
		t.Errorf("%d bytes stand for themselves", itself)
	}
}

func TestP6_1EscapeLong(t *testing.T) {
	if got, want := urlenc.Escape(strings.Repeat("a \xff", 400000)), strings.Repeat("a+%FF", 400000); got != want {
		t.Errorf("Escape of a long text: %d bytes, not %d", len(got), len(want))
	}
}

func TestP6_1UnescapeKnown(t *testing.T) {
	for s, want := range map[string]string{
		"":             "",
		"a+b%26":       "a b&",
		"+":            " ",
		"++":           "  ",
		"%20+ ":        "   ",
		"%2B":          "+",
		"%2b":          "+",
		"%25":          "%",
		"%2541":        "%41",
		"%25%34%31":    "%41",
		"%252B":        "%2B",
		"%00":          "\x00",
		"%ff%Ff%fF%FF": "\xff\xff\xff\xff",
		"%C3%A9":       "\u00e9",
		"%c3\xa9":      "\u00e9",
		"%4142":        "A42",
		"%41%42":       "AB",
		"%26%3d":       "&=",
		// What isn't % or + stands for itself, whatever it is elsewhere.
		"a=b&c=d&&=": "a=b&c=d&&=",
		"~!/?#;\"\\": "~!/?#;\"\\",
		"\xff\xc3":   "\xff\xc3",
		"\x00\r\n ":  "\x00\r\n ",
		"\u20acx":    "\u20acx",
	} {
		isMeant(t, s, want)
	}
}

func TestP6_1UnescapeEachByte(t *testing.T) {
	for c := range 256 {
		s := string([]byte{byte(c)})
		switch s {
		case "%":
			isLoose(t, s, 0)
			isLoose(t, "a"+s+"z", 1)
		case "+":
			isMeant(t, s, " ")
			isMeant(t, "a"+s+"z", "a z")
		default:
			isMeant(t, s, s)
			isMeant(t, "a"+s+"z", "a"+s+"z")
			isMeant(t, "%41"+s+"+", "A"+s+" ")
		}
	}
}

// A % with all of two bytes behind it.
func TestP6_1UnescapeEachPair(t *testing.T) {
	for n := range 1 << 16 {
		pair := string([]byte{byte(n >> 8), byte(n)})
		if strings.Trim(pair, hexDigits) != "" {
			isLoose(t, "%"+pair, 0)
			isLoose(t, "%41b%"+pair+"0", 4)
			continue
		}
		var want byte
		fmt.Sscanf(pair, "%x", &want)
		isMeant(t, "%"+pair, string([]byte{want}))
		isMeant(t, "+%"+pair+"0", " "+string([]byte{want})+"0")
	}
}

// The first % is told that hasn't its digits, though more are wrong behind it.
func TestP6_1UnescapeWrong(t *testing.T) {
	for s, place := range map[string]int{
		"%":             0,
		"%4":            0,
		"a%":            1,
		"ab%4":          2,
		"%%":            0,
		"%%41":          0,
		"%4%41":         0,
		"%41%":          3,
		"%41%4":         3,
		"%41%4g":        3,
		"%41%g4":        3,
		"%41%%41":       3,
		"%41%4%%":       3,
		"%+1":           0,
		"%-1":           0,
		"%1 ":           0,
		"% 1":           0,
		"%0x1":          0,
		"%_1":           0,
		"%u0041":        0,
		"++%zz":         2,
		"&=%&":          2,
		"\xff%":         1,
		"\u20ac%4":      3,
		"%E2%82%A":      6,
		"%25%2":         3,
		"%\uff14\uff11": 0,
	} {
		isLoose(t, s, place)
	}
}

// No limit is told for texts of names and values.
func TestP6_1UnescapeLong(t *testing.T) {
	long := strings.Repeat("a+%fF", 300000)
	isMeant(t, long, strings.Repeat("a \xff", 300000))
	isLoose(t, long+"%", len(long))
	isLoose(t, long+"%f", len(long))
	isLoose(t, "%"+long, 0)
	isLoose(t, long[:500000]+"%"+long[500000:], 500000)
}

// A text that is cut short: what lies behind its end isn't looked at.
func TestP6_1UnescapeCut(t *testing.T) {
	whole := "%41"
	isLoose(t, whole[:1], 0)
	isLoose(t, whole[:2], 0)
	isMeant(t, whole[:0], "")
}

func TestP6_1AsReference(t *testing.T) {
	chance := rand.New(rand.NewPCG(6, 1))
	for range 100000 {
		s := ""
		for range chance.IntN(8) {
			s += []string{"%", "%4", "%41", "%aF", "+", "a", "4", "&", "=", string([]byte{byte(chance.IntN(256))})}[chance.IntN(10)]
		}
		if got, want := urlenc.Escape(s), refEscape(s); got != want {
			t.Errorf("Escape(%q): %q, not %q", s, got, want)
		}
		if meant, fault := refUnescape(s); fault != noPlace {
			isLoose(t, s, fault)
		} else {
			isMeant(t, s, meant)
		}
	}
}
