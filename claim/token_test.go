package claim_test

import (
	"fmt"
	"math"
	"math/rand/v2"
	"slices"
	"strings"
	"testing"

	"warrant/api"
	"warrant/claim"
)

// withText is a token with s in the place of the one or other text.
func withText(place int, s string) claim.Token {
	one := token()
	switch place {
	case 0:
		one.Issuer = s
	case 1:
		one.Handle = s
	case 2:
		one.Client = s
	}
	return one
}

// Each length of an issuer, a handle, a client.
func TestP9_2Lengths(t *testing.T) {
	for place := range 3 {
		for n := range 70 {
			for _, sign := range []string{"a", "!", "~", `"`, `\`} {
				one, of := withText(place, strings.Repeat(sign, n)), fmt.Sprintf("%d of %s at %d", n, sign, place)
				if 1 <= n && n <= 64 {
					isRightToken(t, of, one)
				} else {
					isWrongToken(t, of, one)
				}
			}
		}
		for _, n := range []int{256, 257, 320, 5000, 1<<16 + 1, 1 << 20} {
			isWrongToken(t, fmt.Sprintf("%d at %d", n, place), withText(place, strings.Repeat("a", n)))
		}
	}
}

// Each byte at the beginning, within and at the end of them.
func TestP9_2EachByte(t *testing.T) {
	for place := range 3 {
		for c := range 256 {
			s := string([]byte{byte(c)})
			for _, whole := range []string{s, "a" + s, s + "a", "a" + s + "a", s + strings.Repeat("a", 63), strings.Repeat("a", 63) + s} {
				one, of := withText(place, whole), fmt.Sprintf("%q at %d", whole, place)
				if 33 <= c && c <= 126 {
					isRightToken(t, of, one)
				} else {
					isWrongToken(t, of, one)
				}
			}
		}
		for _, s := range []string{"\u00e9", "\u20ac", "a b", " a", "a ", "\ufeffa", "\U0001f600"} {
			isWrongToken(t, fmt.Sprintf("%q at %d", s, place), withText(place, s))
		}
	}
}

func TestP9_2Subject(t *testing.T) {
	one := token()
	for _, s := range names {
		one.Subject = s
		isRightToken(t, "a subject "+s, one)
	}
	for _, s := range append(slices.Clone(noNames), "\xff", "a\x80") {
		one.Subject = s
		if s == "" {
			isRightToken(t, "no subject", one)
		} else {
			isWrongToken(t, fmt.Sprintf("a subject %.50q", s), one)
		}
	}
}

func TestP9_2Scopes(t *testing.T) {
	one := token()
	for n := range 17 {
		one.Scopes = sixteen()[:n]
		isRightToken(t, fmt.Sprint(n, " scopes"), one)
		for i := 1; i < n; i++ {
			one.Scopes = sixteen()[:n]
			one.Scopes[i-1], one.Scopes[i] = one.Scopes[i], one.Scopes[i-1]
			isWrongToken(t, fmt.Sprintf("%d scopes, not rising at %d", n, i), one)
			one.Scopes = sixteen()[:n]
			one.Scopes[i] = one.Scopes[i-1]
			isWrongToken(t, fmt.Sprintf("%d scopes, twice at %d", n, i), one)
		}
	}
	one.Scopes = append(sixteen(), "q")
	isWrongToken(t, "17 scopes", one)
	one.Scopes = nil
	isRightToken(t, "nil", one)
	one.Scopes = []string{"z", "a", "m"}
	isWrongToken(t, "any order", one)
	for _, s := range names {
		one.Scopes = []string{s}
		isRightToken(t, "a scope "+s, one)
	}
	for _, s := range append(slices.Clone(noNames), "\xff", "read write") {
		one.Scopes = []string{s}
		isWrongToken(t, fmt.Sprintf("a scope %.50q", s), one)
		one.Scopes = []string{"-", s}
		isWrongToken(t, fmt.Sprintf("a scope %.50q behind another", s), one)
	}
}

// times are at the edges of what a token may say, and beyond them.
func times() []int64 {
	return []int64{math.MinInt64, math.MinInt64 + 1, -api.MaxInt, -lastTime, -2, -1, 0, 1, 2, 99, 100, 1 << 31, 1 << 32, api.MaxNow - 1, api.MaxNow, api.MaxNow + 1, lastTime - 1, lastTime, lastTime + 1, api.MaxInt, math.MaxInt64 - 1, math.MaxInt64}
}

func TestP9_2Times(t *testing.T) {
	right := 0
	for _, iat := range times() {
		for _, exp := range times() {
			one := token()
			one.Iat, one.Exp = iat, exp
			if isToken(t, fmt.Sprintf("from %d to %d", iat, exp), one) {
				right++
			}
		}
	}
	if right != 12*13/2 {
		t.Errorf("%d times are right", right)
	}
}

func TestP9_2Zero(t *testing.T) {
	isWrongToken(t, "a zero token", claim.Token{})
	isRightToken(t, "as little as may be", claim.Token{Issuer: "i", Handle: "h", Client: "c"})
}

// Tokens of any faults.
func TestP9_2AsWords(t *testing.T) {
	chance := rand.New(rand.NewPCG(9, 2))
	right := 0
	for range 20000 {
		one := anyToken(chance)
		if chance.IntN(2) == 0 {
			switch chance.IntN(6) {
			case 0, 1:
				one = withText(chance.IntN(3), anyOf(chance, "a~!\x7f \x00\xff", 0, 4))
			case 2:
				one.Subject = anyOf(chance, "abcA ", 0, 35)
			case 3:
				one.Scopes = append(one.Scopes, anyOf(chance, "az~", 0, 2))
			case 4:
				one.Iat += chance.Int64N(3) - 1
			case 5:
				one.Iat, one.Exp = one.Exp, one.Iat
			}
		}
		if isToken(t, fmt.Sprint(one), one) {
			right++
		}
	}
	if right < 10000 || right > 19000 {
		t.Errorf("%d tokens are right", right)
	}
}

func TestP9_2PrintKnown(t *testing.T) {
	for want, one := range map[string]claim.Token{
		`{"client_id":"c","exp":0,"iat":0,"iss":"i","jti":"h","scope":""}`:                                       {Issuer: "i", Handle: "h", Client: "c"},
		`{"client_id":"c","exp":9,"iat":1,"iss":"i","jti":"h","scope":"a b"}`:                                    {Issuer: "i", Handle: "h", Client: "c", Scopes: []string{"a", "b"}, Iat: 1, Exp: 9},
		`{"client_id":"c","exp":9,"iat":1,"iss":"i","jti":"h","scope":"a","sub":"alice"}`:                        {Issuer: "i", Handle: "h", Client: "c", Subject: "alice", Scopes: []string{"a"}, Iat: 1, Exp: 9},
		`{"client_id":"\"","exp":2199023255552,"iat":2199023255552,"iss":"\\","jti":"/~!","scope":"","sub":"-"}`: {Issuer: `\`, Handle: "/~!", Client: `"`, Subject: "-", Iat: lastTime, Exp: lastTime},
	} {
		if s, err := claim.Print(one); err != nil || s != want {
			t.Errorf("Print(%q): %q, %v, not %q", fmt.Sprint(one), s, err, want)
		}
		isRead(t, want, one)
	}
}

// The longest text that there is.
func TestP9_2Longest(t *testing.T) {
	one := token()
	one.Issuer, one.Handle, one.Client, one.Subject = strings.Repeat(`"`, 64), strings.Repeat(`\`, 64), strings.Repeat(`"`, 64), strings.Repeat("s", 32)
	one.Scopes = nil
	for _, s := range sixteen() {
		one.Scopes = append(one.Scopes, strings.Repeat(s, 32))
	}
	one.Iat, one.Exp = lastTime, lastTime
	isRightToken(t, "the longest", one)
	isRead(t, refText(one), one)
}

// text9 is the text of the chapter's example.
const text9 = `{"client_id":"c","exp":9,"iat":1,"iss":"i","jti":"h","scope":"a b"}`

// token9 are its claims.
func token9() claim.Token {
	return claim.Token{Issuer: "i", Handle: "h", Client: "c", Scopes: []string{"a", "b"}, Iat: 1, Exp: 9}
}

// However they are written.
func TestP9_2Read(t *testing.T) {
	for _, s := range []string{
		text9,
		`{"client_id":"c","exp":9,"iat":1,"iss":"i","jti":"h","scope":"b a"}`,
		`{"client_id":"c","exp":9,"iat":1,"iss":"i","jti":"h","scope":"b a b a a"}`,
		`{"scope":"a b","jti":"h","iss":"i","iat":1,"exp":9,"client_id":"c"}`,
		" {\t\"client_id\" : \"c\",\r\n\"exp\":9 ,\"iat\": 1,\"iss\":\"i\",\"jti\":\"h\",\"scope\":\"a b\"\n}\n",
		`{"client\u005fid":"\u0063","exp":9,"iat":1,"\u0069ss":"i","jti":"h","scope":"a\u0020b"}`,
	} {
		isRead(t, s, token9())
	}
	one := token9()
	one.Subject = "alice"
	isRead(t, `{"client_id":"c","exp":9,"iat":1,"iss":"i","jti":"h","scope":"a b","sub":"alice"}`, one)
	isRead(t, `{"sub":"\u0061lice","client_id":"c","exp":9,"iat":1,"iss":"i","jti":"h","scope":"b a"}`, one)
	isRead(t, `{"client_id":"c","exp":0,"iat":0,"iss":"i","jti":"\/\"\\","scope":""}`, claim.Token{Issuer: "i", Handle: `/"\`, Client: "c"})
}

// members are those of a text, each with its value.
func members() [][2]string {
	return [][2]string{{"client_id", `"c"`}, {"exp", "9"}, {"iat", "1"}, {"iss", `"i"`}, {"jti", `"h"`}, {"scope", `"a b"`}, {"sub", `"alice"`}}
}

// written is an object's text.
func written(l [][2]string) string {
	var parts []string
	for _, m := range l {
		parts = append(parts, `"`+m[0]+`":`+m[1])
	}
	return "{" + strings.Join(parts, ",") + "}"
}

// Each set of the members; all but the sub must be there.
func TestP9_2ReadMissing(t *testing.T) {
	all := members()
	for set := range 1 << len(all) {
		var some [][2]string
		for i, m := range all {
			if set>>i&1 == 1 {
				some = append(some, m)
			}
		}
		one := token9()
		if set>>6 == 1 {
			one.Subject = "alice"
		}
		if set&63 == 63 {
			isRead(t, written(some), one)
		} else {
			isNotRead(t, written(some), api.ErrField)
		}
	}
}

// No other member, whatever it is, and wherever it stands.
func TestP9_2ReadMore(t *testing.T) {
	for _, name := range []string{"x", "", "aud", "nbf", "Iss", "ISS", "iss ", " iss", "iss\\u0000", "issu", "is", "client", "client_id2", "exp.", "\u20ac", "permissions", "zzz", "scopes", "subject", "Sub"} {
		for _, val := range []string{"null", "1", "true", `""`, `"i"`, "[]", "{}", `{"iss":"i"}`} {
			for n := 6; n <= 7; n++ {
				for i := range n + 1 {
					isNotRead(t, written(slices.Insert(members()[:n:n], i, [2]string{name, val})))
				}
			}
		}
	}
}

// Each member, with a value of another kind, or that isn't right.
func TestP9_2ReadOthers(t *testing.T) {
	values := []string{"null", "true", "false", "0", "1", "-1", "5", "9", "10", "2199023255552", "2199023255553", "9007199254740991", "-9007199254740991", "[]", "{}", `["a"]`, `["a","b"]`, `[1]`, `{"a":1}`}
	for _, s := range []string{"", "a", "c", "a b", "b a", "a a", " a", "a ", "a  b", " ", "A", "1", "9", "a,b", "\u20ac", "~", "null", "true", strings.Repeat("a", 32), strings.Repeat("a", 33), strings.Repeat("a", 64), strings.Repeat("a", 65), "a b c d e f g h i j k l m n o p", "a b c d e f g h i j k l m n o p q", "a b c d e f g h i j k l m n o p a"} {
		values = append(values, `"`+s+`"`)
	}
	values = append(values, `"\u0000"`, `"\n"`, `"\u007f"`, `"\u0021"`)
	right := map[string]int{}
	for i, m := range members() {
		for _, val := range values {
			l := members()
			l[i][1] = val
			if asReference(t, written(l)) {
				right[m[0]]++
			}
			if i != 6 && asReference(t, written(l[:6])) {
				right[m[0]]++
			}
		}
	}
	for name, want := range map[string]int{"client_id": 2 * 13, "exp": 2 * 5, "iat": 2 * 4, "iss": 2 * 13, "jti": 2 * 13, "scope": 2 * 13, "sub": 7} {
		if right[name] != want {
			t.Errorf("%d values of %s are right, not %d", right[name], name, want)
		}
	}
	for i := range members() {
		kinds := []string{"null", "true", "[]", "{}", `["a"]`, "1"}
		if i == 1 || i == 2 {
			kinds[5] = `"1"`
		}
		for _, val := range kinds {
			l := members()
			l[i][1] = val
			isNotRead(t, written(l), api.ErrField)
		}
	}
}

// Members of the right kind, that aren't right: no other error is behind it.
func TestP9_2ReadNotRight(t *testing.T) {
	for i, values := range [][]string{
		{`""`, `" "`, `"\u20ac"`, `"` + strings.Repeat("c", 65) + `"`},
		{"0", "-1", "2199023255553", "9007199254740991"},
		{"10", "-1", "2199023255553", "-9007199254740991"},
		{`""`, `" "`, `"\u20ac"`, `"` + strings.Repeat("c", 65) + `"`},
		{`""`, `" "`, `"\u20ac"`, `"` + strings.Repeat("c", 65) + `"`},
		{`" "`, `" a"`, `"a "`, `"a  b"`, `"A"`, `"a,b"`, `"` + strings.Repeat("c", 33) + `"`, `"a b c d e f g h i j k l m n o p q"`},
		{`""`, `" "`, `"A"`, `"a b"`, `"` + strings.Repeat("c", 33) + `"`},
	} {
		for _, val := range values {
			l := members()
			l[i][1] = val
			isNotRead(t, written(l))
		}
	}
}

// A sub that is empty is no subject.
func TestP9_2ReadEmptySub(t *testing.T) {
	isNotRead(t, `{"client_id":"c","exp":9,"iat":1,"iss":"i","jti":"h","scope":"a b","sub":""}`)
}

// Times at their edges.
func TestP9_2ReadTimes(t *testing.T) {
	right := 0
	for _, iat := range times() {
		for _, exp := range times() {
			l := members()[:6]
			l[1][1], l[2][1] = fmt.Sprint(exp), fmt.Sprint(iat)
			if asReference(t, written(l)) {
				right++
			}
		}
	}
	if right != 12*13/2 {
		t.Errorf("%d times are right", right)
	}
	for _, n := range []string{"1.0", "1e0", "01", "-0", "+1", "0x1", "NaN", "9007199254740992", strings.Repeat("9", 100)} {
		for i := 1; i <= 2; i++ {
			l := members()
			l[i][1] = n
			isNotRead(t, written(l))
		}
	}
}

// What is no JSON, or no object. None of these has a place.
func TestP9_2ReadNoObject(t *testing.T) {
	for _, s := range []string{"", " ", "{", "}", "null " + text9, "\x00", "\xff", "a", "eyJ9", "'a'", "{a:1}"} {
		isNotRead(t, s)
	}
	for _, s := range []string{"null", "true", "0", `""`, `"iss"`, "[]", "[" + text9 + "]", `{"a":` + text9 + "}"} {
		isNotRead(t, s, api.ErrField)
	}
	isNotRead(t, "{}", api.ErrField)
	for i := range len(text9) {
		isNotRead(t, text9[:i])
		isNotRead(t, text9[i+1:])
	}
	for _, more := range []string{"x", "}", ",", "{}", text9, "\x00", ".", "\u00a0"} {
		isNotRead(t, text9+more)
		isNotRead(t, more+text9)
	}
	for i, m := range members() {
		l := append(members(), m)
		isNotRead(t, written(l))
		l[7][1] = l[(i+1)%7][1]
		isNotRead(t, written(l))
	}
	isNotRead(t, strings.Repeat("[", 9)+strings.Repeat("]", 9))
	isNotRead(t, "["+strings.Repeat("0,", 256)+"0]")
}

// Of at most 4096 bytes.
func TestP9_2ReadLong(t *testing.T) {
	for _, n := range []int{len(text9), 100, 1000, 2048, 4094, 4095, 4096, 4097, 4098, 8192, 1 << 16} {
		s := text9 + strings.Repeat(" ", n-len(text9))
		if n <= 4096 {
			isRead(t, s, token9())
		} else {
			isNotRead(t, s)
		}
	}
	isNotRead(t, text9+strings.Repeat(" ", 1<<20))
	isNotRead(t, strings.Repeat("a", 1<<20))
}

// Each byte at each place of a text, put in and in another's place.
func TestP9_2ReadEachByte(t *testing.T) {
	s := `{"client_id":"c","exp":19,"iat":1,"iss":"i\\","jti":"h","scope":"a b","sub":"al"}`
	right := 0
	for i := range len(s) + 1 {
		for c := range 256 {
			sign := string([]byte{byte(c)})
			if asReference(t, s[:i]+sign+s[i:]) {
				right++
			}
			if i < len(s) && asReference(t, s[:i]+sign+s[i+1:]) {
				right++
			}
		}
	}
	if right < 1000 {
		t.Errorf("only %d texts are right", right)
	}
}

// What was handed in counts for nothing behind the call.
func TestP9_2Apart(t *testing.T) {
	room := []string{"a", "b", "c", "d"}
	one := token()
	one.Scopes = room[:2]
	s, err := claim.Print(one)
	if err != nil || strings.Join(room, " ") != "a b c d" {
		t.Fatalf("Print: %q, %v, and %q", s, err, room)
	}
	got, err := claim.Read(s)
	if err != nil {
		t.Fatal(err)
	}
	for _, part := range append(slices.Clone(got.Scopes), got.Issuer, got.Handle, got.Client, got.Subject) {
		isOutside(t, part, s)
	}
	got.Scopes = append(got.Scopes, "x")
	got.Scopes[0], got.Scopes[1] = "y", "z"
	isRead(t, s, one)
	if strings.Join(room, " ") != "a b c d" {
		t.Errorf("what was handed in was changed: %q", room)
	}
}
