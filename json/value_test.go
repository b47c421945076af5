package json_test

import (
	"fmt"
	"math"
	"slices"
	"strings"
	"testing"

	"warrant/api"
	"warrant/json"
)

// allFields is a value with something in each field: what a kind doesn't name
// must be zero.
func allFields(kind int) api.Json {
	return api.Json{Kind: kind, N: 1, S: "s", K: []string{"a"}, L: []api.Json{null()}}
}

func TestP5_2CheckRight(t *testing.T) {
	for _, v := range []api.Json{
		null(), truth(0), truth(1), number(0), number(1), number(-1), number(api.MaxInt), number(-api.MaxInt),
		text(""), text("a"), text("\x00\x1f\x7f\"\\/"), text("\u20ac\u00e9\U0001f600\ufffd\uffff"), text(strings.Repeat("a", 1<<20)),
		list(), list(null()), list(null(), null()), list(list(), object()), list(many(255)...),
		object(), object("", null()), object("a", number(1), "b", number(1)), object("", null(), "\x00", null(), "A", null(), "a", null(), "a\x00", null(), "aa", null(), "b", null(), "\u00e9", null(), "\uffff", null(), "\U00010000", null()),
		within(list(), 7), within(object(), 7), within(null(), 8), within(text("a"), 8),
		within(list(many(248)...), 7),
		{Kind: api.JNull, L: []api.Json{}, K: []string{}}, // nil or empty
		{Kind: api.JText, S: "a", L: []api.Json{}, K: []string{}},
		{Kind: api.JList, K: []string{}},
		{Kind: api.JList, L: []api.Json{}},
		{Kind: api.JObj, L: []api.Json{}, K: nil},
		{Kind: api.JObj, L: nil, K: []string{}},
	} {
		isRight(t, v)
	}
}

func TestP5_2CheckKinds(t *testing.T) {
	for _, kind := range []int{-1, 6, 7, 1 << 8, 1 << 32, 1<<32 + 1, 1<<8 + 3, math.MaxInt, math.MinInt, math.MinInt + 3} {
		isNotRight(t, fmt.Sprint("kind ", kind), api.Json{Kind: kind})
		isNotRight(t, fmt.Sprint("kind within ", kind), list(api.Json{Kind: kind}))
		isNotRight(t, fmt.Sprint("kind of a member ", kind), object("a", api.Json{Kind: kind}))
	}
	for _, n := range []int64{-1, 2, 3, 256, 1 << 32, math.MaxInt64, math.MinInt64} {
		isNotRight(t, fmt.Sprint("truth ", n), truth(n))
	}
	for _, n := range []int64{api.MaxInt + 1, -api.MaxInt - 1, 1 << 62, math.MaxInt64, math.MinInt64, math.MinInt64 + 1} {
		isNotRight(t, fmt.Sprint("number ", n), number(n))
		isNotRight(t, fmt.Sprint("number within ", n), list(number(1), number(n)))
	}
}

// Each field that a kind doesn't name must be zero.
func TestP5_2CheckOtherFields(t *testing.T) {
	fields := []struct {
		name  string
		set   func(v *api.Json)
		kinds []int // those that name it
	}{
		{"N", func(v *api.Json) { v.N = 1 }, []int{api.JBool, api.JInt}},
		{"S", func(v *api.Json) { v.S = "s" }, []int{api.JText}},
		{"L", func(v *api.Json) { v.L = many(1) }, []int{api.JList}},
		{"K", func(v *api.Json) { v.K = []string{"a"} }, nil},
		{"K and L", func(v *api.Json) { v.K, v.L = []string{"a"}, many(1) }, []int{api.JObj}},
	}
	for kind := range 6 {
		for _, field := range fields {
			v := api.Json{Kind: kind}
			field.set(&v)
			if slices.Contains(field.kinds, kind) {
				isRight(t, v)
				isRight(t, list(v))
			} else {
				isNotRight(t, fmt.Sprint("kind ", kind, " with ", field.name), v)
				isNotRight(t, fmt.Sprint("kind ", kind, " with ", field.name, " within"), list(v))
			}
		}
		isNotRight(t, fmt.Sprint("all fields, kind ", kind), allFields(kind))
	}
	isNotRight(t, "an object with N", api.Json{Kind: api.JObj, N: 1, K: []string{"a"}, L: many(1)})
	isNotRight(t, "an object with S", api.Json{Kind: api.JObj, S: "s", K: []string{"a"}, L: many(1)})
	isNotRight(t, "a list with S", api.Json{Kind: api.JList, S: "s", L: many(1)})
	isNotRight(t, "a list with names", api.Json{Kind: api.JList, K: []string{"a"}, L: many(1)})
	isNotRight(t, "a number with S", api.Json{Kind: api.JInt, N: 5, S: "5"})
	isNotRight(t, "a text with N", api.Json{Kind: api.JText, N: 5, S: "5"})
	isNotRight(t, "a truth with L", api.Json{Kind: api.JBool, L: many(1)})
}

func TestP5_2CheckNames(t *testing.T) {
	for what, v := range map[string]api.Json{
		"more names":          {Kind: api.JObj, K: []string{"a", "b"}, L: many(1)},
		"more values":         {Kind: api.JObj, K: []string{"a"}, L: many(2)},
		"names alone":         {Kind: api.JObj, K: []string{"a"}},
		"values alone":        {Kind: api.JObj, L: many(1)},
		"falling names":       object("b", null(), "a", null()),
		"a falling pair":      object("a", null(), "c", null(), "b", null()),
		"a name twice":        object("a", null(), "a", null()),
		"no name twice":       object("", null(), "", null()),
		"a pair behind":       object("a", null(), "b", null(), "b", null()),
		"small ahead of big":  object("a", null(), "A", null()),
		"a longer one ahead":  object("aa", null(), "a", null()),
		"order of letters":    object("\U00010000", null(), "\uffff", null()),
		"a name of no UTF-8":  object("\xff", null()),
		"a second of none":    object("a", null(), "b\xe2\x82", null()),
		"a name of half":      object("\xed\xa0\x80", null()),
		"a name of no letter": object("\xc0\x80", null()),
	} {
		isNotRight(t, what, v)
		isNotRight(t, what+" within", list(v))
		isNotRight(t, what+" of a member", object("x", v))
	}
	for _, s := range []string{"\xff", "a\x80", "\xc0\x80", "\xed\xa0\x80", "\xed\xa0\xbd\xed\xb8\x80", "\xe2\x82", "\xf4\x90\x80\x80"} {
		isNotRight(t, fmt.Sprintf("the text %q", s), text(s))
		isNotRight(t, fmt.Sprintf("the text %q within", s), list(number(1), text(s)))
	}
}

func TestP5_2CheckLimits(t *testing.T) {
	isNotRight(t, "256 in a list", list(many(256)...))
	isNotRight(t, "lists of many", list(list(many(127)...), list(many(127)...)))
	isRight(t, list(list(many(127)...), list(many(126)...)))
	isNotRight(t, "an object of many", api.Json{Kind: api.JObj, K: rising(256), L: many(256)})
	isRight(t, api.Json{Kind: api.JObj, K: rising(255), L: many(255)})
	isNotRight(t, "a million", list(many(1<<20)...))
	isNotRight(t, "a list at depth 9", within(list(), 8))
	isNotRight(t, "a list of one at depth 9", within(null(), 9))
	isNotRight(t, "an object at depth 9", within(object(), 8))
	isNotRight(t, "a list at depth 9, behind others", list(null(), list(), within(list(), 7)))
	isNotRight(t, "249 within 8", within(list(many(249)...), 7))
	isNotRight(t, "a list at depth 60000", within(list(), 59999))
	deep := object("a", null())
	for range 7 {
		deep = object("a", deep)
	}
	isRight(t, deep)
	isNotRight(t, "objects of depth 9", object("a", deep))
}

// rising are n names.
func rising(n int) []string {
	var l []string
	for i := range n {
		l = append(l, fmt.Sprintf("%08d", i))
	}
	return l
}

// A value that stands within itself nests too deep, or is too many.
func TestP5_2CheckWithinItself(t *testing.T) {
	for _, n := range []int{1, 2, 300, 5000} {
		items := make([]api.Json, n)
		members := make([]api.Json, n)
		names := rising(n)
		for i := range n {
			items[i] = api.Json{Kind: api.JList, L: items}
			members[i] = api.Json{Kind: api.JObj, K: names, L: members}
		}
		isNotRight(t, "a list within itself", items[0])
		isNotRight(t, "an object within itself", members[0])
	}
	wide := list(null())
	for range 50 {
		wide = list(wide, wide)
	}
	isNotRight(t, "what stands in more and more lists", wide)
}

func TestP5_2PrintKnown(t *testing.T) {
	for _, c := range []struct {
		v    api.Json
		want string
	}{
		{null(), "null"},
		{truth(0), "false"},
		{truth(1), "true"},
		{number(0), "0"},
		{number(-40), "-40"},
		{number(api.MaxInt), "9007199254740991"},
		{number(-api.MaxInt), "-9007199254740991"},
		{text(""), `""`},
		{text("a b"), `"a b"`},
		{text("a\"b\\c/d"), `"a\"b\\c/d"`},
		{text("\x08\x09\x0a\x0c\x0d"), `"\u0008\u0009\u000a\u000c\u000d"`},
		{text("\x00\x0b\x1f\x1e\x10\x20\x7f"), `"\u0000\u000b\u001f\u001e\u0010 ` + "\x7f\""},
		{text("\u20ac\u00e9\U0001f600\u2028<>&'"), "\"\u20ac\u00e9\U0001f600\u2028<>&'\""},
		{list(), "[]"},
		{list(null()), "[null]"},
		{list(number(1), number(2), list(), object(), text("x")), `[1,2,[],{},"x"]`},
		{object(), "{}"},
		{object("", null()), `{"":null}`},
		{object("a", number(1), "b", list(truth(1), text(","))), `{"a":1,"b":[true,","]}`},
		{object("\n\"", null(), "\u20ac", object("\\", text("\\"))), `{"\u000a\"":null,"€":{"\\":"\\"}}`},
		{object("a", list(truth(1), text("\u20ac")), "b", number(1)), `{"a":[true,"€"],"b":1}`},
		{within(list(), 7), "[[[[[[[[]]]]]]]]"},
		{within(number(9), 8), "[[[[[[[[9]]]]]]]]"},
		{api.Json{Kind: api.JList, L: []api.Json{}}, "[]"},
		{list(many(255)...), "[" + strings.TrimSuffix(strings.Repeat("null,", 255), ",") + "]"},
	} {
		isPrinted(t, c.v, c.want)
	}
}

// Every byte below 128, as the words say of it.
func TestP5_2PrintEachByte(t *testing.T) {
	for c := range 128 {
		s := string(rune(c))
		want := s
		switch {
		case c < 32:
			want = fmt.Sprintf(`\u%04x`, c)
		case s == `"` || s == `\`:
			want = `\` + s
		}
		isPrinted(t, text(s), `"`+want+`"`)
		isPrinted(t, text("a"+s+"\u20ac"), `"a`+want+"\u20ac\"")
		isPrinted(t, object(s, text(s)), `{"`+want+`":"`+want+`"}`)
	}
}

// A text of MaxJson bytes may be, one of one more may not.
func TestP5_2PrintLong(t *testing.T) {
	of := func(n int, s string) string { return strings.Repeat(s, n) }
	isPrinted(t, text(of(4094, "a")), `"`+of(4094, "a")+`"`)
	isTooLong(t, text(of(4095, "a")))
	isPrinted(t, text(of(2047, `"`)), `"`+of(2047, `\"`)+`"`)
	isTooLong(t, text(of(2047, `\`)+"a"))
	isTooLong(t, text("a"+of(2047, `"`)))
	isPrinted(t, text(of(682, "\n")+"ab"), `"`+of(682, `\u000a`)+`ab"`)
	isTooLong(t, text(of(682, "\n")+"abc"))
	isTooLong(t, text(of(683, "\n")))
	isPrinted(t, text(of(1364, "\u20ac")+"ab"), `"`+of(1364, "\u20ac")+`ab"`)
	isTooLong(t, text(of(1365, "\u20ac")))
	isPrinted(t, list(text(of(4092, "a"))), `["`+of(4092, "a")+`"]`)
	isTooLong(t, list(text(of(4093, "a"))))
	isPrinted(t, list(text(of(4090, "a")), number(1)), `["`+of(4090, "a")+`",1]`)
	isTooLong(t, list(text(of(4091, "a")), number(1)))
	isTooLong(t, list(text(of(4089, "a")), number(1), number(1)))
	isPrinted(t, list(number(1), text(of(4085, "a")), null()), `[1,"`+of(4085, "a")+`",null]`)
	isTooLong(t, list(number(1), text(of(4086, "a")), null()))
	isPrinted(t, object("a", text(of(4088, "a"))), `{"a":"`+of(4088, "a")+`"}`)
	isTooLong(t, object("a", text(of(4089, "a"))))
	isPrinted(t, object(of(4090, "a"), number(1)), `{"`+of(4090, "a")+`":1}`)
	isTooLong(t, object(of(4091, "a"), number(1)))
	isTooLong(t, object(of(4090, "a"), number(-1)))
	isPrinted(t, list(list(), text(of(4089, "a"))), `[[],"`+of(4089, "a")+`"]`)
	isTooLong(t, list(text(of(4090, "a")), list()))
	isTooLong(t, text(of(1<<20, "\x00")))
	long := text(of(1<<12, "\x1f"))
	isTooLong(t, list(slices.Repeat([]api.Json{long}, 255)...))
	isTooLong(t, list(object(of(1<<16, "\x1f"), within(long, 6)), long))
	isNotRight(t, "too long, and not right", list(text(of(5000, "a")), number(1<<60)))
	isNotRight(t, "too long, and no UTF-8", text(of(5000, "a")+"\xff"))
}

func TestP5_2ArgumentStays(t *testing.T) {
	for _, v := range []api.Json{
		object("a", list(text("\n"), object("b", null())), "c", number(-1)),
		object("b", text("\xff"), "a", list(truth(2))),
	} {
		kept := show(v)
		json.Check(v)
		json.Print(v)
		if show(v) != kept {
			t.Errorf("%s was changed to %s", kept, show(v))
		}
	}
}

// isGot tells a test what Get must tell.
func isGot(t *testing.T, v api.Json, name string, want api.Json, there bool) {
	t.Helper()
	if got, found := json.Get(v, name); found != there || show(got) != show(want) {
		t.Errorf("Get(%s, %q): %s, %v, not %s, %v", show(v), name, show(got), found, show(want), there)
	}
}

func TestP5_3Get(t *testing.T) {
	v := object("", number(0), "a", number(1), "b", list(number(2), text("x")), "\u20ac", null(), "\xff", text("\xff"))
	isGot(t, v, "", number(0), true)
	isGot(t, v, "a", number(1), true)
	isGot(t, v, "b", list(number(2), text("x")), true)
	isGot(t, v, "\u20ac", null(), true)
	isGot(t, v, "\xff", text("\xff"), true)
	for _, name := range []string{"A", "aa", "c", " ", "\x00", "\u20ac\u20ac", "\xfe", "x"} {
		isGot(t, v, name, null(), false)
	}
	isGot(t, object(), "", null(), false)
	isGot(t, object("b", number(1), "a", number(2), "b", number(3)), "a", number(2), true)
	isGot(t, object("b", number(1), "a", number(2), "b", number(3)), "b", number(1), true)
	isGot(t, object("a", truth(7)), "a", truth(7), true)
	isGot(t, object("a", allFields(-9)), "a", allFields(-9), true)
	isGot(t, object("a", object("b", number(1))), "b", null(), false)
	for _, kind := range []int{api.JNull, api.JBool, api.JInt, api.JText, api.JList, -1, 6, 1<<32 + 5} {
		isGot(t, api.Json{Kind: kind, S: "a", K: []string{"a"}, L: []api.Json{number(1)}}, "a", null(), false)
	}
	short := api.Json{Kind: api.JObj, K: []string{"a", "b", "a"}, L: []api.Json{number(1)}}
	isGot(t, short, "a", number(1), true)
	isGot(t, short, "b", null(), false)
	isGot(t, api.Json{Kind: api.JObj, K: []string{"a"}}, "a", null(), false)
	isGot(t, api.Json{Kind: api.JObj, K: []string{"a"}, L: many(3)}, "a", null(), true)
	isGot(t, api.Json{Kind: api.JObj, L: many(3)}, "", null(), false)
}

func TestP5_3Same(t *testing.T) {
	values := []api.Json{
		null(), {Kind: api.JNull, N: 1}, {Kind: api.JNull, S: "a"}, {Kind: api.JNull, L: many(1)}, {Kind: api.JNull, K: []string{""}},
		truth(0), truth(1), truth(2), number(0), number(1), number(-1), number(math.MaxInt64), number(math.MinInt64),
		text(""), text("a"), text("b"), text("\xff"), text("\xfe"), text("aa"), text("a\x00"),
		list(), list(null()), list(null(), null()), list(number(1), number(2)), list(number(2), number(1)), list(list()), list(text("a")), list(list(text("a"))), list(list(text("b"))),
		object(), object("a", null()), object("b", null()), object("a", number(1)), object("a", number(1), "b", number(2)), object("b", number(2), "a", number(1)), object("a", number(2), "b", number(1)),
		object("a", object("a", list(number(1)))), object("a", object("a", list(number(2)))), object("a", object("b", list(number(1)))),
		{Kind: api.JObj, K: []string{"a"}}, {Kind: api.JObj, K: []string{"a", "b"}}, {Kind: api.JObj, L: many(1)}, {Kind: -1}, {Kind: 6}, {Kind: 1 << 32},
		within(number(1), 30000), within(number(2), 30000), within(number(1), 30001),
	}
	for i, v := range values {
		for j, w := range values {
			if json.Same(v, w) != (i == j) {
				t.Errorf("Same(%.80s, %.80s): %v", show(v), show(w), i != j)
			}
		}
		if len(values[i].L) < 9 && i < len(values)-3 && !json.Same(v, emptied(v)) {
			t.Errorf("Same of %s: nil and empty are told apart", show(v))
		}
	}
}

// emptied is v, with lists that are empty where they were nil, and anew.
func emptied(v api.Json) api.Json {
	v.K = append([]string{}, v.K...)
	v.L = append([]api.Json{}, v.L...)
	for i := range v.L {
		v.L[i] = emptied(v.L[i])
	}
	return v
}

// isMade tells a test what was made.
func isMade(t *testing.T, what string, got, want api.Json) {
	t.Helper()
	if show(got) != show(want) {
		t.Errorf("%s: %.200s, not %.200s", what, show(got), show(want))
	}
}

func TestP5_3Scalars(t *testing.T) {
	for _, s := range []string{"", "a", "\u20ac", "\xff", "\x00", strings.Repeat("a", 1<<20)} {
		isMade(t, "Text", json.Text(s), text(s))
	}
	for _, n := range []int64{0, 1, -1, api.MaxInt, api.MaxInt + 1, math.MaxInt64, math.MinInt64} {
		isMade(t, "Int", json.Int(n), number(n))
	}
	isMade(t, "Bool", json.Bool(true), truth(1))
	isMade(t, "Bool", json.Bool(false), truth(0))
}

func TestP5_3List(t *testing.T) {
	isMade(t, "List", json.List(), list())
	isMade(t, "List", json.List([]api.Json(nil)...), list())
	isMade(t, "List", json.List([]api.Json{}...), list())
	isMade(t, "List", json.List(number(2), number(1), number(2)), list(number(2), number(1), number(2)))
	isMade(t, "List", json.List(json.List(json.List()), text("a")), list(list(list()), text("a")))
	isMade(t, "List", json.List(allFields(9), truth(5), text("\xff")), list(allFields(9), truth(5), text("\xff")))
	isMade(t, "List", json.List(many(5000)...), list(many(5000)...))
}

func TestP5_3Obj(t *testing.T) {
	type m = json.Member
	isMade(t, "Obj", json.Obj(), object())
	isMade(t, "Obj", json.Obj([]m{}...), object())
	isMade(t, "Obj", json.Obj(m{"b", number(1)}, m{"a", number(2)}), object("a", number(2), "b", number(1)))
	isMade(t, "Obj", json.Obj(m{"a", number(1)}, m{"a", number(2)}), object("a", number(2)))
	isMade(t, "Obj", json.Obj(m{"a", number(1)}, m{"a", null()}), object("a", null()))
	isMade(t, "Obj", json.Obj(m{"b", number(1)}, m{"a", number(2)}, m{"b", number(3)}, m{"c", number(4)}, m{"a", number(5)}, m{"b", number(6)}),
		object("a", number(5), "b", number(6), "c", number(4)))
	isMade(t, "Obj", json.Obj(m{"\U00010000", null()}, m{"\uffff", null()}, m{"\xff", null()}, m{"", null()}, m{"a", null()}, m{"B", null()}, m{"aa", null()}, m{"\x00", null()}),
		object("", null(), "\x00", null(), "B", null(), "a", null(), "aa", null(), "\uffff", null(), "\U00010000", null(), "\xff", null()))
	isMade(t, "Obj", json.Obj(m{"a", allFields(7)}), object("a", allFields(7)))
	var l []m
	for i := range 3000 {
		l = append(l, m{fmt.Sprintf("%03d", i*7%1000), number(int64(i))})
	}
	v := json.Obj(l...)
	if len(v.K) != 1000 || len(v.L) != 1000 || !slices.IsSorted(v.K) {
		t.Fatalf("Obj of 3000 members: %d names, %d values", len(v.K), len(v.L))
	}
	for i := 2000; i < 3000; i++ {
		isGot(t, v, fmt.Sprintf("%03d", i*7%1000), number(int64(i)), true)
	}
}

// What is made is the caller's, and what is handed in stays as it is: neither
// lies in the other.
func TestP5_3Apart(t *testing.T) {
	inner := func() api.Json { return object("b", list(number(1), list(text("x"))), "a", object("c", null())) }
	for what, make := range map[string]func(v []api.Json, m []json.Member) api.Json{
		"List": func(v []api.Json, _ []json.Member) api.Json { return json.List(v...) },
		"Obj":  func(_ []api.Json, m []json.Member) api.Json { return json.Obj(m...) },
		"Get": func(v []api.Json, _ []json.Member) api.Json {
			got, _ := json.Get(object("x", v[0]), "x")
			return got
		},
	} {
		shared := inner()
		values := []api.Json{shared, shared, number(3)}
		members := []json.Member{{"z", shared}, {"y", shared}, {"z", shared}, {"x", number(3)}}
		made := make(values, members)
		before := show(made)
		if show(shared) != show(inner()) || members[0].Name != "z" || members[1].Name != "y" || members[2].Name != "z" || members[3].Name != "x" || len(values) != 3 {
			t.Errorf("%s changed what was handed in", what)
		}
		grow(t, &made, &made)
		if len(made.L) > 1 {
			spoil(&made.L[0])
			if show(make(values, members)) != before {
				t.Errorf("%s: what was told lies in what was handed in", what)
			}
			second := show(made.L[1])
			if what == "List" && second != show(inner()) {
				t.Errorf("%s: two values of one share memory: %s", what, second)
			}
		}
		made = make(values, members)
		spoil(&shared)
		for i := range values {
			spoil(&values[i])
		}
		for i := range members {
			members[i].Name = "spoilt"
			spoil(&members[i].Val)
		}
		if show(made) != before {
			t.Errorf("%s: what was handed in lies in what was told: %s", what, show(made))
		}
	}
}

// Values may nest far deeper than is right.
func TestP5_3Deep(t *testing.T) {
	deep := within(number(1), 60000)
	other := within(number(2), 60000)
	if v := json.List(deep); !json.Same(v, within(number(1), 60001)) || json.Same(v, deep) {
		t.Error("List of what is deep")
	}
	v := json.Obj(json.Member{Name: "a", Val: deep}, json.Member{Name: "b", Val: other})
	if got, there := json.Get(v, "a"); !there || !json.Same(got, deep) || json.Same(got, other) {
		t.Error("Get of what is deep")
	}
}
