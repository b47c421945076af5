package claim_test

import (
	"errors"
	"fmt"
	"math"
	"math/rand/v2"
	"slices"
	"strings"
	"testing"

	"warrant/api"
	"warrant/claim"
	"warrant/json"
)

func TestP9_3Known(t *testing.T) {
	isPushed(t, `{"exp":1}`, 0, "", object())
	isPushed(t, `{"exp":1,"sub":"alice"}`, 0, "alice", object())
	isPushed(t, `{"sub":"alice","exp":1,"age":20}`, 0, "alice", object("age", number(20)))
	isPushed(t, `{"role":["a","b"],"exp":100,"age":20,"name":"\u20ac","x":null,"t":true,"o":{"exp":1,"sub":2}}`, 99, "",
		object("age", number(20), "name", text("\u20ac"), "o", object("exp", number(1), "sub", number(2)), "role", texts("a", "b"), "t", truth(1), "x", null()))
	isPushed(t, " { \"\\u0065xp\" : 5 , \"s\\u0075b\":\"\\u0061\" , \"\":0 } ", 4, "a", object("", number(0)))
	isPushed(t, `{"exp":7,"Exp":0,"EXP":"x","expo":1,"ex":2,"Sub":"A","subs":3,"su":4,"iss":5,"iat":6,"jti":7,"client_id":8,"scope":9}`, 6, "",
		object("EXP", text("x"), "Exp", number(0), "Sub", text("A"), "client_id", number(8), "ex", number(2), "expo", number(1), "iat", number(6), "iss", number(5), "jti", number(7), "scope", number(9), "su", number(4), "subs", number(3)))
}

// The exp is above now, at the edges of both.
func TestP9_3Exp(t *testing.T) {
	pushed := 0
	for _, exp := range []int64{-api.MaxInt, -api.MaxInt + 1, -lastTime, -1, 0, 1, 2, 1000, api.MaxNow, api.MaxNow + 1, lastTime, lastTime + 1, api.MaxInt - 1, api.MaxInt} {
		for _, now := range append(times(), -api.MaxInt-1, -api.MaxInt+1, 1000, api.MaxInt-1, api.MaxInt+1) {
			for _, sub := range []string{"", "alice"} {
				s := fmt.Sprintf(`{"exp":%d,"age":20}`, exp)
				if sub != "" {
					s = fmt.Sprintf(`{"age":20,"exp":%d,"sub":%q}`, exp, sub)
				}
				if exp > now {
					isPushed(t, s, now, sub, object("age", number(20)))
					pushed++
				} else {
					isNotPushed(t, s, now, noPlace)
				}
			}
		}
	}
	if pushed < 100 {
		t.Errorf("only %d are pushed", pushed)
	}
	for _, s := range []string{"{}", `{"sub":"a"}`, `{"exp":null}`, `{"exp":"9"}`, `{"exp":true}`, `{"exp":[9]}`, `{"exp":{"exp":9}}`, `{"Exp":9}`, `{"expo":9}`, `{"iat":9,"sub":"a"}`} {
		isNotPushed(t, s, math.MinInt64, noPlace, api.ErrField)
	}
	for s, place := range map[string]int{`{"exp":9.0}`: 8, `{"exp":9e9}`: 8, `{"exp":09}`: 8, `{"exp":+9}`: 7, `{"exp":- 9}`: 8, `{"exp":}`: 7} {
		isNotPushed(t, s, 0, place, api.ErrJson)
	}
	isNotPushed(t, `{"exp":9007199254740992}`, 0, 7, api.ErrOver)
	isNotPushed(t, `{"exp":-9007199254740992}`, math.MinInt64, 7, api.ErrOver)
}

func TestP9_3Sub(t *testing.T) {
	quoted := func(s string) string {
		text, err := json.Print(json.Text(s))
		if err != nil {
			t.Fatal(err)
		}
		return text
	}
	for _, s := range names {
		isPushed(t, `{"exp":9,"sub":`+quoted(s)+`}`, 8, s, object())
		isPushed(t, `{"a":"b","sub":`+quoted(s)+`,"exp":9}`, 8, s, object("a", text("b")))
	}
	for _, s := range noNames {
		isNotPushed(t, `{"exp":9,"sub":`+quoted(s)+`}`, 8, noPlace)
		isNotPushed(t, `{"a":"b","sub":`+quoted(s)+`,"exp":9}`, 8, noPlace)
		isNotPushed(t, `{"sub":`+quoted(s)+`,"exp":9}`, 9, noPlace)
	}
	for c := range 128 {
		s := "a" + string(rune(c))
		if namePattern.MatchString(s) {
			isPushed(t, `{"exp":9,"sub":`+quoted(s)+`}`, 8, s, object())
		} else {
			isNotPushed(t, `{"exp":9,"sub":`+quoted(s)+`}`, 8, noPlace)
		}
	}
	for _, val := range []string{"null", "true", "1", "0", "[]", "{}", `["alice"]`, `{"sub":"alice"}`} {
		isNotPushed(t, `{"exp":9,"sub":`+val+`}`, 8, noPlace, api.ErrField)
		isNotPushed(t, `{"sub":`+val+`,"exp":9}`, 8, noPlace, api.ErrField)
		// The exp is asked first: it is a number, only not above now.
		isNotPushed(t, `{"sub":`+val+`,"exp":9}`, 9, noPlace)
	}
}

func TestP9_3NoObject(t *testing.T) {
	for _, s := range []string{"null", "true", "0", "9", `""`, `"exp"`, "[]", `[{"exp":9}]`, `["exp",9]`, " [ ] "} {
		isNotPushed(t, s, 0, noPlace, api.ErrField)
	}
}

// What is no JSON: json's error is found, too, and its place.
func TestP9_3NoJson(t *testing.T) {
	for s, place := range map[string]int{"": 0, " ": 1, "{": 1, "}": 0, "x": 0, `{"exp":9`: 8, `{"exp":9}}`: 9, `{"exp":9} {`: 10, `{"exp":9,}`: 9, "{\"exp\":9,\"\xff\":1}": 10, `{'exp':9}`: 1, "\x00": 0, "eyJ9": 0, `{"exp":9,"a":"\x"}`: 15, `{"exp":9,"a":"\ud800"}`: 14} {
		isNotPushed(t, s, 0, place, api.ErrJson)
	}
	isNotPushed(t, `{"exp":9,"exp":9}`, 0, 9, api.ErrTwice)
	isNotPushed(t, `{"exp":9,"exp":10}`, 9, 9, api.ErrTwice)
	isNotPushed(t, `{"sub":"a","exp":9,"sub":"a"}`, 0, 19, api.ErrTwice)
	isNotPushed(t, `{"exp":9,"a":1,"a":2}`, 0, 15, api.ErrTwice)
	isNotPushed(t, `{"exp":9,"a":`+strings.Repeat("[", 7)+strings.Repeat("]", 7)+`,"b":`+strings.Repeat("[", 8)+strings.Repeat("]", 8)+"}", 0, 39, api.ErrDeep)
	isNotPushed(t, `{"exp":9,"a":[`+strings.Repeat("0,", 253)+"0,0]}", 0, 14+2*253, api.ErrMany)
	isNotPushed(t, `{"exp":9,"a":99999999999999999}`, 0, 13, api.ErrOver)
	// Even where the exp or the sub would not be so.
	isNotPushed(t, `{"exp":1,"sub":"A"`, 5, 18, api.ErrJson)
	isNotPushed(t, `[1`, 5, 2, api.ErrJson)
}

// Of at most 4096 bytes; beyond them there is no place.
func TestP9_3Long(t *testing.T) {
	s := `{"exp":9,"a":"` + strings.Repeat("a", 4080) + `"}`
	if len(s) != 4096 {
		t.Fatalf("%d bytes", len(s))
	}
	isPushed(t, s, 8, "", object("a", text(strings.Repeat("a", 4080))))
	isNotPushed(t, s, 9, noPlace)
	isNotPushed(t, s+" ", 8, noPlace, api.ErrLong)
	isNotPushed(t, " "+s, 9, noPlace, api.ErrLong)
	isNotPushed(t, strings.Repeat("{", 1<<20), 0, noPlace, api.ErrLong)
}

// Each limit that may be reached is.
func TestP9_3Limits(t *testing.T) {
	var items []string
	claims := object()
	for i := range 253 {
		name := fmt.Sprintf("n%03d", i)
		items = append(items, fmt.Sprintf(`"%s":%d`, name, i))
		claims.K, claims.L = append(claims.K, name), append(claims.L, number(int64(i)))
	}
	many := "{" + strings.Join(items, ",") + `,"exp":9,"sub":"a"`
	isPushed(t, many+"}", 8, "a", claims)
	isNotPushed(t, many+`,"x":0}`, 8, len(many)+5, api.ErrMany)
	deep := list()
	for range 6 {
		deep = list(deep)
	}
	isPushed(t, `{"d":[[[[[[[]]]]]]],"exp":9}`, 8, "", object("d", deep))
}

// Texts of any kind: with json's error and its place just where json tells one,
// else by the words.
func TestP9_3AsWords(t *testing.T) {
	s := `{"exp":10,"a":[1,"x"],"sub":"al","tt":"\u0041"}`
	pushed, wrong := 0, 0
	isSo := func(s string) {
		v, jsonErr := json.Parse([]byte(s))
		if jsonErr != nil {
			var no api.Errno
			place := noPlace
			var at *api.At
			if errors.As(jsonErr, &at) {
				place = at.Pos
			}
			errors.As(jsonErr, &no)
			isNotPushed(t, s, 9, place, no)
			wrong++
			return
		}
		sub, claims, right := refPushed(v, 9)
		if right {
			isPushed(t, s, 9, sub, claims)
			pushed++
			return
		}
		_, _, err := claim.Pushed(s, 9)
		var at *api.At
		if !errors.Is(err, api.ErrClaim) || errors.As(err, &at) {
			t.Errorf("Pushed(%q): %v, %+v", s, err, at)
		}
	}
	for i := range len(s) + 1 {
		for c := range 256 {
			sign := string([]byte{byte(c)})
			isSo(s[:i] + sign + s[i:])
			if i < len(s) {
				isSo(s[:i] + sign + s[i+1:])
			}
		}
	}
	chance := rand.New(rand.NewPCG(9, 3))
	parts := []string{`"exp":10`, `"exp":9`, `"exp":"10"`, `"sub":"al"`, `"sub":""`, `"sub":1`, `"a":1`, `"b":[]`, `"c":{"exp":1}`, `"e":"x"`}
	for range 5000 {
		var some []string
		for _, part := range parts {
			if chance.IntN(3) == 0 {
				some = append(some, part)
			}
		}
		chance.Shuffle(len(some), func(i, j int) { some[i], some[j] = some[j], some[i] })
		isSo("{" + strings.Join(some, ",") + "}")
	}
	if pushed < 2000 || wrong < 10000 {
		t.Errorf("only %d are pushed, and %d are no JSON", pushed, wrong)
	}
}

// refPushed tells what Pushed must of what was parsed, by the words alone.
func refPushed(v api.Json, now int64) (sub string, claims api.Json, right bool) {
	claims = object()
	timely := false
	for i, name := range v.K {
		switch val := v.L[i]; name {
		case "exp":
			timely = val.Kind == api.JInt && val.N > now
		case "sub":
			if val.Kind != api.JText || !namePattern.MatchString(val.S) {
				return "", null(), false
			}
			sub = val.S
		default:
			claims.K, claims.L = append(claims.K, name), append(claims.L, val)
		}
	}
	if v.Kind != api.JObj || !timely {
		return "", null(), false
	}
	return sub, claims, true
}

// What is told is the caller's.
func TestP9_3Apart(t *testing.T) {
	s := `{"a":["x","y"],"b":{"c":[1],"d":"text"},"exp":9,"sub":"alice"}`
	want := object("a", texts("x", "y"), "b", object("c", list(number(1)), "d", text("text")))
	for range 2 {
		sub, claims, err := claim.Pushed(s, 0)
		if err != nil || sub != "alice" || show(claims) != show(want) {
			t.Fatalf("Pushed: %q, %s, %v", sub, show(claims), err)
		}
		isOutside(t, sub, s)
		isOutside(t, claims.L[0].L[1].S, s)
		isOutside(t, claims.L[1].L[1].S, s)
		for _, name := range slices.Concat(claims.K, claims.L[1].K) {
			isOutside(t, name, s)
		}
		claims.L[0].L = append(claims.L[0].L[:1], text("z"))
		claims.L[1].K[0] = "spoilt"
		if show(claims.L[1]) != show(object("spoilt", list(number(1)), "d", text("text"))) {
			t.Errorf("two lists share memory: %s", show(claims))
		}
		claims.K[0] = "spoilt"
		claims.L = claims.L[:1]
	}
}
