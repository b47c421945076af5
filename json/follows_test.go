package json_test

import (
	"bytes"
	stdjson "encoding/json"
	"fmt"
	"maps"
	"math/rand/v2"
	"slices"
	"strings"
	"testing"
	"unicode/utf16"

	"warrant/api"
	"warrant/json"
)

// anyString is a text of a few letters of all sizes.
func anyString(chance *rand.Rand) string {
	letters := []rune("abAZ09 \"\\/\x00\x01\b\t\n\f\r\x1f\x7f\u0080\u00e9\u07ff\u0800\u20ac\u2028\ud7ff\ue000\ufffd\uffff\U00010000\U0001f600\U0010ffff")
	s := ""
	for range chance.IntN(6) {
		s += string(letters[chance.IntN(len(letters))])
	}
	return s
}

// anyValue is a right value, of lists and objects of no depth beyond so many.
func anyValue(chance *rand.Rand, deep int) api.Json {
	kinds := 6
	if deep == 0 {
		kinds = 4
	}
	switch kind := chance.IntN(kinds); kind {
	case api.JBool:
		return truth(chance.Int64N(2))
	case api.JInt:
		return number((chance.Int64N(2*api.MaxInt+1) - api.MaxInt) >> chance.IntN(54))
	case api.JText:
		return text(anyString(chance))
	case api.JList:
		v := list()
		for range chance.IntN(4) {
			v.L = append(v.L, anyValue(chance, deep-1))
		}
		return v
	case api.JObj:
		values := make(map[string]api.Json)
		for range chance.IntN(4) {
			values[anyString(chance)] = anyValue(chance, deep-1)
		}
		v := object()
		for _, name := range slices.Sorted(maps.Keys(values)) {
			v.K, v.L = append(v.K, name), append(v.L, values[name])
		}
		return v
	}
	return null()
}

// anyText is a text of v: with blanks, members in any order, letters written in
// any way.
func anyText(chance *rand.Rand, v api.Json) string {
	s := ""
	switch v.Kind {
	case api.JNull:
		s = "null"
	case api.JBool:
		s = []string{"false", "true"}[v.N]
	case api.JInt:
		s = fmt.Sprint(v.N)
	case api.JText:
		s = anyQuoted(chance, v.S)
	case api.JList:
		var items []string
		for _, item := range v.L {
			items = append(items, anyText(chance, item))
		}
		s = "[" + anyBlanks(chance) + strings.Join(items, ",") + "]"
	case api.JObj:
		var items []string
		for i, name := range v.K {
			items = append(items, anyBlanks(chance)+anyQuoted(chance, name)+anyBlanks(chance)+":"+anyText(chance, v.L[i]))
		}
		chance.Shuffle(len(items), func(i, j int) { items[i], items[j] = items[j], items[i] })
		s = "{" + anyBlanks(chance) + strings.Join(items, ",") + "}"
	}
	return anyBlanks(chance) + s + anyBlanks(chance)
}

func anyBlanks(chance *rand.Rand) string {
	return []string{"", "", "", " ", "\n", "\t", "\r\n", "  "}[chance.IntN(8)]
}

// anyQuoted writes each letter in one of its ways.
func anyQuoted(chance *rand.Rand, s string) string {
	out := ""
	for _, letter := range s {
		var ways []string
		if letter >= 32 && letter != '"' && letter != '\\' {
			ways = append(ways, string(letter), string(letter))
		}
		if i := strings.IndexRune("\"\\/\b\f\n\r\t", letter); i >= 0 {
			ways = append(ways, `\`+`"\/bfnrt`[i:i+1])
		}
		if high, low := utf16.EncodeRune(letter); letter > 65535 {
			ways = append(ways, fmt.Sprintf(`\u%x\u%X`, high, low))
		} else {
			ways = append(ways, fmt.Sprintf(`\u%04x`, letter), fmt.Sprintf(`\u%04X`, letter))
		}
		out += ways[chance.IntN(len(ways))]
	}
	return `"` + out + `"`
}

// size is how many values are in v.
func size(v api.Json) int {
	n := 1
	for _, item := range v.L {
		n += size(item)
	}
	return n
}

func TestP5_4ParseOfPrint(t *testing.T) {
	chance := rand.New(rand.NewPCG(5, 41))
	printed := 0
	for range 60000 {
		v := anyValue(chance, chance.IntN(9))
		if size(v) > api.MaxValues {
			isNotRight(t, "many", v)
			continue
		}
		isRight(t, v)
		s, err := json.Print(v)
		if err != nil {
			isTooLong(t, v)
			continue
		}
		printed++
		isParsed(t, s, v)
		if got, _ := json.Parse([]byte(s)); !json.Same(got, v) {
			t.Errorf("Parse of Print isn't the same as %s", show(v))
		}
	}
	if printed < 50000 {
		t.Errorf("only %d values were printed", printed)
	}
}

// However a value is written, it is read; and its one text is the same.
func TestP5_4HoweverWritten(t *testing.T) {
	chance := rand.New(rand.NewPCG(5, 42))
	for range 30000 {
		v := anyValue(chance, chance.IntN(9))
		one, err := json.Print(v)
		s := anyText(chance, v)
		if err != nil || len(s) > api.MaxJson {
			continue
		}
		isParsed(t, s, v)
		got, _ := json.Parse([]byte(s))
		if again, err := json.Print(got); err != nil || again != one {
			t.Errorf("Print of Parse(%q): %q, %v, not %q", s, again, err, one)
		}
	}
}

// What is taken of texts of any kind is right, and is read again of its text.
func TestP5_4TakenIsRight(t *testing.T) {
	taken := 0
	isTaken := func(s string) {
		v, err := json.Parse([]byte(s))
		if err != nil {
			return
		}
		taken++
		isRight(t, v)
		one, err := json.Print(v)
		if err != nil {
			t.Errorf("Print of Parse(%q): %v", s, err)
		}
		isParsed(t, one, v)
	}
	for i := range len(sample) {
		for c := range 256 {
			isTaken(sample[:i] + string([]byte{byte(c)}) + sample[i:])
			isTaken(sample[:i] + string([]byte{byte(c)}) + sample[i+1:])
		}
	}
	chance := rand.New(rand.NewPCG(5, 43))
	for range 20000 {
		isTaken(anyText(chance, anyValue(chance, chance.IntN(6))))
	}
	if taken < 20000 {
		t.Errorf("only %d texts were taken", taken)
	}
}

// The one text of a value may be longer than another that is taken: then there
// is no Print of it, though it is right.
func TestP5_4LongerThanRead(t *testing.T) {
	v, err := json.Parse([]byte(`"` + strings.Repeat(`\n`, 683) + `"`))
	if err != nil {
		t.Fatalf("Parse: %+v", err)
	}
	isTooLong(t, v)
	v, err = json.Parse([]byte(`"` + strings.Repeat(`\n`, 682) + `"`))
	if err != nil {
		t.Fatalf("Parse: %+v", err)
	}
	isPrinted(t, v, `"`+strings.Repeat(`\u000a`, 682)+`"`)
}

// plain is v as the library's own means tell values.
func plain(v api.Json) any {
	switch v.Kind {
	case api.JBool:
		return v.N == 1
	case api.JInt:
		return stdjson.Number(fmt.Sprint(v.N))
	case api.JText:
		return v.S
	case api.JList:
		l := []any{}
		for _, item := range v.L {
			l = append(l, plain(item))
		}
		return l
	case api.JObj:
		m := map[string]any{}
		for i, name := range v.K {
			m[name] = plain(v.L[i])
		}
		return m
	}
	return nil
}

// What is printed and what is read are JSON, as the library's own means take it.
func TestP5_4AsTheLibrary(t *testing.T) {
	chance := rand.New(rand.NewPCG(5, 44))
	for range 20000 {
		v := anyValue(chance, chance.IntN(6))
		texts := []string{anyText(chance, v)}
		if s, err := json.Print(v); err == nil {
			texts = append(texts, s)
		}
		for _, s := range texts {
			var got any
			read := stdjson.NewDecoder(bytes.NewReader([]byte(s)))
			read.UseNumber()
			if err := read.Decode(&got); err != nil || fmt.Sprintf("%#v", got) != fmt.Sprintf("%#v", plain(v)) {
				t.Fatalf("%q is %#v, %v, not %s", s, got, err, show(v))
			}
		}
	}
}
