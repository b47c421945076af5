package claim_test

import (
	"fmt"
	"math"
	"math/rand/v2"
	"slices"
	"strings"
	"testing"

	"warrant/api"
	"warrant/claim"
	"warrant/json"
)

// isText tells a test that Text must tell want.
func isText(t *testing.T, v api.Json, name, want string) {
	t.Helper()
	if got, err := claim.Text(v, name); err != nil || got != want {
		t.Errorf("Text(%.200s, %.50q): %.200q, %v, not %.200q", show(v), name, got, err, want)
	}
}

// isNoText tells a test that Text must tell ErrField.
func isNoText(t *testing.T, v api.Json, name string) {
	t.Helper()
	got, err := claim.Text(v, name)
	if got != "" {
		t.Errorf("Text(%.200s, %.50q): %.200q beside an error", show(v), name, got)
	}
	isError(t, fmt.Sprintf("Text(%.200s, %.50q)", show(v), name), err, noPlace, api.ErrField)
}

// isInt tells a test that Int must tell want.
func isInt(t *testing.T, v api.Json, name string, want int64) {
	t.Helper()
	if got, err := claim.Int(v, name); err != nil || got != want {
		t.Errorf("Int(%.200s, %.50q): %d, %v, not %d", show(v), name, got, err, want)
	}
}

// isNoInt tells a test that Int must tell ErrField.
func isNoInt(t *testing.T, v api.Json, name string) {
	t.Helper()
	got, err := claim.Int(v, name)
	if got != 0 {
		t.Errorf("Int(%.200s, %.50q): %d beside an error", show(v), name, got)
	}
	isError(t, fmt.Sprintf("Int(%.200s, %.50q)", show(v), name), err, noPlace, api.ErrField)
}

// isNames tells a test that Names must tell want.
func isNames(t *testing.T, v api.Json, name string, want ...string) {
	t.Helper()
	if got, err := claim.Names(v, name); err != nil || !slices.Equal(got, want) {
		t.Errorf("Names(%.400s, %.50q): %.300q, %v, not %.300q", show(v), name, got, err, want)
	}
}

// isNoNames tells a test that Names must tell ErrField.
func isNoNames(t *testing.T, v api.Json, name string) {
	t.Helper()
	got, err := claim.Names(v, name)
	if len(got) != 0 {
		t.Errorf("Names(%.200s, %.50q): %.200q beside an error", show(v), name, got)
	}
	isError(t, fmt.Sprintf("Names(%.200s, %.50q)", show(v), name), err, noPlace, api.ErrField)
}

// isNothing tells a test that no call may tell a member of that name.
func isNothing(t *testing.T, v api.Json, name string) {
	t.Helper()
	isNoText(t, v, name)
	isNoInt(t, v, name)
	isNoNames(t, v, name)
}

// One object with a member of each kind: each call tells those of its own.
func TestP9_1EachKind(t *testing.T) {
	for _, val := range eachKind() {
		for _, name := range []string{"", "a", "m", "\u20ac", "\xff", "\x00", strings.Repeat("m", 5000)} {
			for _, v := range []api.Json{
				object(name, val), object("A", number(7), name, val), object(name, val, "zz", text("z")), object("A", text("b"), name, val, "zz", texts("z")),
			} {
				if val.Kind == api.JText {
					isText(t, v, name, val.S)
				} else {
					isNoText(t, v, name)
				}
				if val.Kind == api.JInt {
					isInt(t, v, name, val.N)
				} else {
					isNoInt(t, v, name)
				}
				if val.Kind == api.JList && len(val.L) == 1 && val.L[0].Kind == api.JText {
					isNames(t, v, name, val.L[0].S)
				} else {
					isNoNames(t, v, name)
				}
				isNothing(t, v, "other")
				isNothing(t, v, name+"m")
			}
		}
		isNothing(t, val, "m")
		isNothing(t, val, "")
		isNothing(t, list(val, object("m", val)), "m")
		isNothing(t, object("a", object("m", val)), "m")
	}
}

// What is no object has no members, whatever it looks like.
func TestP9_1NoObject(t *testing.T) {
	for _, kind := range []int{api.JNull, api.JBool, api.JInt, api.JText, api.JList, -1, 6, 1 << 32, 1<<32 + api.JObj, math.MaxInt, math.MinInt} {
		for _, val := range []api.Json{text("a"), number(1), texts("a")} {
			isNothing(t, api.Json{Kind: kind, S: "m", K: []string{"m"}, L: []api.Json{val}}, "m")
		}
	}
	isNothing(t, api.Json{}, "")
	isNothing(t, object(), "")
	isNothing(t, object(), "m")
	isNothing(t, api.Json{Kind: api.JObj, K: []string{"m"}}, "m")
	isNothing(t, api.Json{Kind: api.JObj, K: []string{"a", "m"}, L: []api.Json{text("a")}}, "m")
	isNothing(t, api.Json{Kind: api.JObj, L: []api.Json{text("a")}}, "")
	isText(t, api.Json{Kind: api.JObj, K: []string{"a", "m"}, L: []api.Json{text("b")}}, "a", "b")
}

// Of several of a name the first counts, as it does in layer 5.
func TestP9_1First(t *testing.T) {
	isText(t, object("m", text("1"), "m", text("2")), "m", "1")
	isInt(t, object("a", number(0), "m", number(1), "m", number(2)), "m", 1)
	isNames(t, object("m", texts("b"), "m", texts("c")), "m", "b")
	isNoText(t, object("m", number(1), "m", text("2")), "m")
	isNoInt(t, object("m", text("1"), "m", number(2)), "m")
	isNoNames(t, object("m", texts(), "m", texts("a")), "m")
}

func TestP9_1Text(t *testing.T) {
	for _, s := range append(slices.Concat(names, noNames), "\xff", "a\x80", strings.Repeat("a", 1<<20)) {
		isText(t, object("m", text(s)), "m", s)
		isText(t, object("a", text("another"), "m", text(s), "z", number(3)), "m", s)
	}
}

func TestP9_1Int(t *testing.T) {
	for _, n := range []int64{0, 1, -1, 255, 256, -256, math.MaxInt32, math.MinInt32, 1 << 32, lastTime, lastTime + 1, api.MaxInt, -api.MaxInt, math.MaxInt64, math.MinInt64} {
		isInt(t, object("m", number(n)), "m", n)
		isInt(t, object("a", number(5), "m", number(n), "z", text("3")), "m", n)
		isNoInt(t, object("m", text(fmt.Sprint(n))), "m")
		isNoInt(t, object("m", truth(n)), "m")
	}
}

// Each name, and each text that is none, alone and at each place of a list.
func TestP9_1NamesItems(t *testing.T) {
	for _, s := range names {
		isNames(t, object("m", texts(s)), "m", s)
	}
	for _, s := range append(slices.Clone(noNames), "\xff", "a\x80", strings.Repeat("a", 1<<16+1)) {
		isNoNames(t, object("m", texts(s)), "m")
		for n := 1; n <= 16; n++ {
			for i := range n {
				l := sixteen()[:n]
				l[i] = s
				isNoNames(t, object("m", texts(l...)), "m")
			}
		}
	}
	for c := range 256 {
		s := string([]byte{byte(c)})
		for _, one := range []string{s, "a" + s, s + "a", "a" + s + "a", strings.Repeat("a", 31) + s, s + strings.Repeat("a", 31)} {
			if namePattern.MatchString(one) {
				isNames(t, object("m", texts(one)), "m", one)
			} else {
				isNoNames(t, object("m", texts(one)), "m")
			}
		}
	}
}

// What is no text, at each place of a list.
func TestP9_1NamesKinds(t *testing.T) {
	for _, val := range eachKind() {
		if val.Kind == api.JText {
			continue
		}
		for n := 1; n <= 16; n++ {
			for i := range n {
				l := texts(sixteen()[:n]...)
				l.L[i] = val
				isNoNames(t, object("m", l), "m")
			}
		}
	}
}

// Lists of each length, in any order.
func TestP9_1NamesLength(t *testing.T) {
	isNoNames(t, object("m", list()), "m")
	isNoNames(t, object("m", api.Json{Kind: api.JList}), "m")
	isNoNames(t, object("m", texts([]string{}...)), "m")
	chance := rand.New(rand.NewPCG(9, 1))
	for n := 1; n <= 40; n++ {
		var l []string
		for i := range n {
			l = append(l, fmt.Sprintf("n%03d", i))
		}
		for range 20 {
			shuffled := slices.Clone(l)
			chance.Shuffle(n, func(i, j int) { shuffled[i], shuffled[j] = shuffled[j], shuffled[i] })
			if n <= 16 {
				isNames(t, object("m", texts(shuffled...)), "m", l...)
			} else {
				isNoNames(t, object("m", texts(shuffled...)), "m")
			}
		}
	}
	for _, n := range []int{256, 257, 272, 1<<16 + 1} {
		var l []string
		for i := range n {
			l = append(l, fmt.Sprint("n", i))
		}
		isNoNames(t, object("m", texts(l...)), "m")
	}
	isNames(t, object("m", texts("b", "a", "ab", "a-", "0", ":", "_", "z", "-")), "m", "-", "0", ":", "_", "a", "a-", "ab", "b", "z")
}

// One name at each two places.
func TestP9_1NamesTwice(t *testing.T) {
	for n := 2; n <= 17; n++ {
		for i := range n {
			for j := range i {
				l := append(sixteen(), "q")[:n]
				l[i] = l[j]
				isNoNames(t, object("m", texts(l...)), "m")
			}
		}
	}
	isNoNames(t, object("m", texts(strings.Split(strings.Repeat("a ", 17), " ")[:17]...)), "m")
	isNoNames(t, object("m", texts("a", "a")), "m")
}

// Any lists, against the words.
func TestP9_1NamesAsWords(t *testing.T) {
	chance := rand.New(rand.NewPCG(9, 11))
	items := []api.Json{number(1), null(), list(), text("A"), text("")}
	right := 0
	for range 30000 {
		l, seen, wrong := list(), map[string]int{}, 0
		for range chance.IntN(20) {
			item := text(anyOf(chance, "abcdefghij", 1, 3))
			if chance.IntN(40) == 0 {
				item = items[chance.IntN(len(items))]
			}
			l.L = append(l.L, item)
			if seen[item.S]++; item.Kind != api.JText || !namePattern.MatchString(item.S) || seen[item.S] > 1 {
				wrong++
			}
		}
		if wrong > 0 || len(l.L) < 1 || len(l.L) > 16 {
			isNoNames(t, object("m", l), "m")
			continue
		}
		var want []string
		for _, item := range l.L {
			want = append(want, item.S)
		}
		slices.Sort(want)
		isNames(t, object("m", l), "m", want...)
		right++
	}
	if right < 5000 {
		t.Errorf("only %d lists are right", right)
	}
}

// Members of what was parsed.
func TestP9_1Parsed(t *testing.T) {
	v, err := json.Parse([]byte(`{"n":-5,"l":["write","r\u0065ad"],"t":"\u20ac","e":"","z":0,"no":null,"yes":true,"o":{"t":"x","n":1,"l":["a"]}}`))
	if err != nil {
		t.Fatal(err)
	}
	isText(t, v, "t", "\u20ac")
	isText(t, v, "e", "")
	isInt(t, v, "n", -5)
	isInt(t, v, "z", 0)
	isNames(t, v, "l", "read", "write")
	for _, name := range []string{"no", "yes", "o", "x", "", "T"} {
		isNothing(t, v, name)
	}
}

// What was handed in stays, and what is told is the caller's.
func TestP9_1Apart(t *testing.T) {
	memory := "one two three four five"
	v := object("l", texts(memory[:3], memory[4:7], memory[8:13]), "t", text(memory[14:18]))
	before := show(v)
	for range 2 {
		l, err := claim.Names(v, "l")
		if err != nil || strings.Join(l, " ") != "one three two" {
			t.Fatalf("Names: %q, %v", l, err)
		}
		for _, s := range l {
			isOutside(t, s, memory)
		}
		l = append(l, "x")
		for i := range l {
			l[i] = "spoilt"
		}
		s, err := claim.Text(v, "t")
		if err != nil || s != "four" {
			t.Fatalf("Text: %q, %v", s, err)
		}
		isOutside(t, s, memory)
		claim.Int(v, "t")
		if show(v) != before {
			t.Errorf("what was handed in was changed: %s", show(v))
		}
	}
}

// A member may nest far deeper than is right.
func TestP9_1Deep(t *testing.T) {
	deep := texts("a")
	for range 60000 {
		deep = list(deep)
	}
	v := object("a", deep, "m", text("x"))
	_, textErr := claim.Text(v, "a")
	isError(t, "Text", textErr, noPlace, api.ErrField)
	_, intErr := claim.Int(v, "a")
	isError(t, "Int", intErr, noPlace, api.ErrField)
	for _, l := range []api.Json{deep, list(text("a"), deep), list(deep, text("a"))} {
		_, err := claim.Names(object("a", l), "a")
		isError(t, "Names", err, noPlace, api.ErrField)
	}
	if s, err := claim.Text(v, "m"); err != nil || s != "x" {
		t.Errorf("Text beside what is deep: %q, %v", s, err)
	}
}
