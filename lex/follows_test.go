package lex_test

import (
	"math/rand/v2"
	"testing"

	"warrant/api"
	"warrant/lex"
)

// unplaced are the same tokens, but for their places.
func unplaced(l []api.Tok) []api.Tok {
	var out []api.Tok
	for _, tok := range l {
		tok.Pos = 0
		out = append(out, tok)
	}
	return out
}

// isTheSame tells a test that Scan of s must be want, but for places.
func isTheSame(t *testing.T, s string, want []api.Tok) {
	t.Helper()
	l, err := lex.Scan(s)
	if err != nil || !isSame(unplaced(l), unplaced(want)) {
		t.Errorf("Scan(%.200q): %.300s, %+v, not %.300s", s, show(l), err, show(want))
	}
}

// follows tells a test that the tokens of s, joined, must be the same again,
// as far as they fit.
func follows(t *testing.T, s string) {
	t.Helper()
	l, err := lex.Scan(s)
	if err != nil {
		t.Fatalf("Scan(%q): %v", s, err)
	}
	text := lex.Join(l)
	if len(text) > 2048 {
		isWrong(t, text, api.ErrLong, noPlace)
		return
	}
	isTheSame(t, text, l)
	isJoined(t, unplaced(l), text)
	if again, _ := lex.Scan(text); lex.Join(again) != text {
		t.Errorf("Join of Scan of %.200q: %.200q", text, lex.Join(again))
	}
}

func TestP11_3Known(t *testing.T) {
	for _, s := range []string{
		"", " ", "# x", "permit;", "permit when time <= -7; # x", `permit scope "read" when claim("age") >= 18 and not subject = owner;`, "deny;\n# no\npermit;\r\n",
		`"\"\\"`, `"" "" ""`, "0007", "1-2-3", "<==>=!==", "<<>>==", "x#\ny", `"a"b"c"1"d"`, "\"\x7f\u20ac# \"", times("a", 32), "9007199254740991-9007199254740991",
		times(";", 512), times(";", 1024/2) + times(" ", 1536), `"` + times("a", 2046) + `"`, `"` + times(`\\`, 1023) + `"`,
	} {
		follows(t, s)
	}
	// What was written without blanks may not fit with them.
	follows(t, `"`+times("a", 2045)+`"`)
	follows(t, `"`+times("a", 2045)+`";`)
	follows(t, times(`"xxxxx"`, 292))
	follows(t, times("abcdefgh<", 227))
}

func TestP11_3Any(t *testing.T) {
	chance := rand.New(rand.NewPCG(11, 3))
	for range 20000 {
		follows(t, anyPolicy(chance, 20))
	}
	fit := 0
	for range 500 {
		s := ""
		for len(s) < 2000 && chance.IntN(200) > 0 {
			// What is longer than a text may be is left as it was.
			if longer := s + anyOf(chance, ";", "<=", "<", " a", " 7", "-7", `"x"`, " "+refSpell(anyTok(chance))); len(longer) <= 2048 {
				s = longer
			}
		}
		if l, no, _ := refScan(s); no == 0 {
			follows(t, s)
			if len(lex.Join(l)) <= 2048 {
				fit++
			}
		}
	}
	if fit < 100 || fit > 490 {
		t.Errorf("%d fit", fit)
	}
}

// The same tokens, written with other blanks and remarks, and with none where
// there must be none.
func TestP11_3Gaps(t *testing.T) {
	chance := rand.New(rand.NewPCG(11, 33))
	for range 10000 {
		var want []api.Tok
		for range chance.IntN(8) {
			want = append(want, anyTok(chance))
		}
		want = append(want, end(0))
		for range 4 {
			s, last := "", ""
			for _, tok := range want[:len(want)-1] {
				text := refSpell(tok)
				if needsGap(last, text) || chance.IntN(3) > 0 {
					s += anyGap(chance)
				}
				s, last = s+text, text
			}
			s += anyOf(chance, "", " ", "\n", "#", "# x", "#\n", "\t#\xff", "\r")
			isTheSame(t, s, want)
		}
	}
}

// Any text: if it is none of tokens, the reference says so; else it follows.
func TestP11_3Spoiled(t *testing.T) {
	chance := rand.New(rand.NewPCG(11, 333))
	right := 0
	for range 20000 {
		s := spoiled(chance, anyPolicy(chance, 8))
		if _, no, place := refScan(s); no != 0 {
			isWrong(t, s, no, place)
			continue
		}
		right++
		follows(t, s)
	}
	if right < 5000 || right > 18000 {
		t.Errorf("%d were right", right)
	}
}
