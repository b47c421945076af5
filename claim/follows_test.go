package claim_test

import (
	stdjson "encoding/json"
	"fmt"
	"math/rand/v2"
	"strings"
	"testing"

	"warrant/api"
	"warrant/claim"
)

// Read of Print are the claims; the text is as it is written out, and as the
// library's own means take it.
func TestP9_4ReadOfPrint(t *testing.T) {
	chance := rand.New(rand.NewPCG(9, 41))
	for range 20000 {
		one := anyToken(chance)
		isRightToken(t, fmt.Sprint(one), one)
		s, err := claim.Print(one)
		if err != nil {
			t.Fatalf("Print(%q): %v", fmt.Sprint(one), err)
		}
		isRead(t, s, one)
		var members map[string]any
		if err := stdjson.Unmarshal([]byte(s), &members); err != nil {
			t.Fatalf("%q: %v", s, err)
		}
		want := map[string]any{"client_id": one.Client, "exp": float64(one.Exp), "iat": float64(one.Iat), "iss": one.Issuer, "jti": one.Handle, "scope": strings.Join(one.Scopes, " ")}
		if one.Subject != "" {
			want["sub"] = one.Subject
		}
		if fmt.Sprint(members) != fmt.Sprint(want) {
			t.Errorf("%q: %v, not %v", s, members, want)
		}
	}
}

// However a text is written, its claims' text is the one, and it isn't changed
// by being read again.
func TestP9_4PrintOfRead(t *testing.T) {
	chance := rand.New(rand.NewPCG(9, 42))
	for range 10000 {
		one := anyToken(chance)
		var l []string
		add := func(name string, val any) {
			text, err := stdjson.Marshal(val)
			if err != nil {
				t.Fatal(err)
			}
			l = append(l, fmt.Sprintf("%s%q%s:%s%s", anyBlanks(chance), name, anyBlanks(chance), anyBlanks(chance), text))
		}
		add("iss", one.Issuer)
		add("jti", one.Handle)
		add("client_id", one.Client)
		add("iat", one.Iat)
		add("exp", one.Exp)
		if one.Subject != "" {
			add("sub", one.Subject)
		}
		scopes := append([]string{}, one.Scopes...)
		if len(scopes) > 0 {
			scopes = append(scopes, scopes[chance.IntN(len(scopes))])
		}
		chance.Shuffle(len(scopes), func(i, j int) { scopes[i], scopes[j] = scopes[j], scopes[i] })
		add("scope", strings.Join(scopes, " "))
		chance.Shuffle(len(l), func(i, j int) { l[i], l[j] = l[j], l[i] })
		s := "{" + strings.Join(l, ",") + "}" + anyBlanks(chance)
		if len(s) > api.MaxJson {
			continue
		}
		isRead(t, s, one)
		got, err := claim.Read(s)
		again, printErr := claim.Print(got)
		if err != nil || printErr != nil || again != refText(one) {
			t.Errorf("Print of Read(%q): %q, %v, %v, not %q", s, again, err, printErr, refText(one))
		}
	}
}

func anyBlanks(chance *rand.Rand) string {
	return []string{"", "", "", " ", "\n", "\t", "\r\n", "  "}[chance.IntN(8)]
}

// What isn't right isn't printed; so what is read was right.
func TestP9_4TakenIsRight(t *testing.T) {
	chance := rand.New(rand.NewPCG(9, 43))
	taken := 0
	for range 20000 {
		b := []byte(refText(anyToken(chance)))
		for range chance.IntN(3) {
			b[chance.IntN(len(b))] = "0129{}\",:ab \\"[chance.IntN(13)]
		}
		got, err := claim.Read(string(b))
		if err != nil {
			continue
		}
		taken++
		isRightToken(t, fmt.Sprint(got), got)
		isRead(t, refText(got), got)
	}
	if taken < 5000 {
		t.Errorf("only %d texts were taken", taken)
	}
}

// Members that are asked of what was pushed are what was told.
func TestP9_4Asked(t *testing.T) {
	_, claims, err := claim.Pushed(`{"age":20,"exp":5,"name":"x","roles":["b","a"],"sub":"alice"}`, 4)
	if err != nil {
		t.Fatal(err)
	}
	isInt(t, claims, "age", 20)
	isText(t, claims, "name", "x")
	isNames(t, claims, "roles", "a", "b")
	isNothing(t, claims, "exp")
	isNothing(t, claims, "sub")
}
