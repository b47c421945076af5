package scope_test

import (
	"math/rand/v2"
	"slices"
	"strings"
	"testing"

	"warrant/scope"
)

func TestP7_1NameKnown(t *testing.T) {
	for _, s := range []string{
		"a", "z", "0", "9", ".", ":", "_", "-", "read", "write", "openid", "a.b:c_d-e", "--", "..", "09az", "-1",
		ofNames[:32], ofNames[8:], strings.Repeat("z", 31), strings.Repeat("0", 32), strings.Repeat("-", 32),
	} {
		if !scope.Name(s) {
			t.Errorf("Name(%q): false", s)
		}
	}
	for _, s := range strange {
		if scope.Name(s) {
			t.Errorf("Name(%.80q): true", s)
		}
	}
}

// Each byte, alone and at each place of names.
func TestP7_1NameEachByte(t *testing.T) {
	right := 0
	for c := range 256 {
		s := string([]byte{byte(c)})
		want := strings.Contains(ofNames, s)
		if want {
			right++
		}
		for _, text := range []string{s, s + "a", "a" + s, "a" + s + "a", s + s, s + strings.Repeat("z", 31), strings.Repeat("0", 31) + s, strings.Repeat("-", 16) + s + strings.Repeat(":", 15)} {
			if got := scope.Name(text); got != want {
				t.Errorf("Name(%q): %v", text, got)
			}
		}
	}
	if right != 40 {
		t.Errorf("%d bytes are of names", right)
	}
}

func TestP7_1NameEachLength(t *testing.T) {
	for n := range 100 {
		for _, c := range ofNames {
			s := strings.Repeat(string(c), n)
			if got := scope.Name(s); got != (1 <= n && n <= 32) {
				t.Errorf("Name of %d times %c: %v", n, c, got)
			}
		}
	}
}

func TestP7_1CheckKnown(t *testing.T) {
	for _, l := range [][]string{
		nil,
		{},
		{"a"},
		{"a", "b"},
		{"read", "write"},
		{strings.Repeat("a", 31), strings.Repeat("a", 32)},
		// Byte by byte; what begins another stands ahead of it.
		{"-", ".", "0", "9", ":", "_", "a", "z"},
		{"a", "a-", "a.", "a0", "a:", "a_", "aa", "b"},
		{"1", "10", "2"},
		{"z", "za"},
		sixteen(),
	} {
		isRight(t, l)
	}
	for _, l := range [][]string{
		{"b", "a"},
		{"a", "a"},
		{"a", "b", "b"},
		{"a", "a", "b"},
		{"a", "b", "a"},
		{"a", "c", "b"},
		{"b", "a", "c"},
		{"aa", "a"},
		{"10", "2", "1"},
		{"2", "10"},
		{"a", "-"},
		{"_", ":"},
		{"a", "_"},
		{"0", "."},
		{".", "-"},
		{"a", "A"},
		{"A", "a"},
		{"", "a"},
		{"a", ""},
		{"", ""},
		{"read write"},
	} {
		isNotRight(t, l)
	}
}

// Each text that is no name, at each place, where it would be rising, too.
func TestP7_1CheckNames(t *testing.T) {
	for _, s := range strange {
		isNotRight(t, []string{s})
		isNotRight(t, []string{s, "zz"})
		isNotRight(t, []string{"-", s})
		isNotRight(t, refSet([]string{"-", "a", s, "zz"}))
		for i := range sixteen() {
			l := sixteen()
			l[i] = s
			isNotRight(t, l)
			isNotRight(t, refSet(l))
		}
	}
}

// At most sixteen, none of them twice, each behind the one ahead of it.
func TestP7_1CheckMany(t *testing.T) {
	for n := range 17 {
		isRight(t, sixteen()[:n])
		isRight(t, sixteen()[16-n:])
	}
	for i := range 17 {
		for _, more := range []string{"a", "c", "zz", "", "A"} {
			l := slices.Insert(sixteen(), i, more)
			isNotRight(t, l)
			isNotRight(t, refSet(l))
		}
	}
	for i := range 15 {
		l := sixteen()
		l[i], l[i+1] = l[i+1], l[i]
		isNotRight(t, l)
		l[i] = l[i+1]
		isNotRight(t, l)
	}
	isNotRight(t, slices.Repeat([]string{"a"}, 17))
	isNotRight(t, make([]string, 100000))
}

func TestP7_1CheckLeaves(t *testing.T) {
	for _, l := range [][]string{{"c", "a", "b", "a"}, {"b", "A"}, sixteen(), slices.Repeat([]string{"a"}, 17)} {
		old := slices.Clone(l)
		scope.Check(l)
		isSame(t, "the list that was handed to Check", l, old)
	}
}

func TestP7_1ParseKnown(t *testing.T) {
	for s, want := range map[string][]string{
		"":                       nil,
		"a":                      {"a"},
		"read write read":        {"read", "write"},
		"read write":             {"read", "write"},
		"write read":             {"read", "write"},
		"a a a a":                {"a"},
		"c b a":                  {"a", "b", "c"},
		"c b a c b a":            {"a", "b", "c"},
		"a b b a":                {"a", "b"},
		"aa a aaa":               {"a", "aa", "aaa"},
		"z a _ : 9 0 . -":        {"-", ".", "0", "9", ":", "_", "a", "z"},
		"b aa a_ a: a0 a. a- a":  {"a", "a-", "a.", "a0", "a:", "a_", "aa", "b"},
		"2 10 1":                 {"1", "10", "2"},
		ofNames[:32]:             {ofNames[:32]},
		"b " + ofNames[:32]:      {ofNames[:32], "b"},
		"openid a.b:c_d-e -1 09": {"-1", "09", "a.b:c_d-e", "openid"},
	} {
		isParsed(t, s, want)
	}
	for _, s := range []string{
		" ", "  ", " a", "a ", "a  b", " a b", "a b ", "a b  ", "a   b", "a b  c",
		"a,b", "a\tb", "a\nb", "a\n", "\na", "a\u00a0b", "a+b", "a%20b", "a\x00b", "a\vb", "a\rb",
		"A", "a B", "A b", "a B c", "read Write", "a \u00e9", "a \xff b", "\x00", "a a A a",
		ofNames[:33], "a " + ofNames[:33], ofNames[:33] + " a",
	} {
		isWrong(t, s)
	}
}

// Each byte at each place of a text.
func TestP7_1ParseEachByte(t *testing.T) {
	text := "b a bc:1 a"
	for i := range len(text) + 1 {
		for c := range 256 {
			s := string([]byte{byte(c)})
			asReference(t, text[:i]+s+text[i:])
			if i < len(text) {
				asReference(t, text[:i]+s+text[i+1:])
			}
		}
	}
}

// All texts of a few signs, as long as they are short.
func TestP7_1ParseShort(t *testing.T) {
	texts := []string{""}
	for range 7 {
		var longer []string
		for _, s := range texts {
			asReference(t, s)
			for _, sign := range []string{"a", "b", " ", "-", "A"} {
				longer = append(longer, s+sign)
			}
		}
		texts = longer
	}
}

// Sixteen unlike ones, and as many of each as may be; never seventeen.
func TestP7_1ParseMany(t *testing.T) {
	all := sixteen()
	text := strings.Join(all, " ")
	isParsed(t, text, all)
	isParsed(t, text+" "+text, all)
	isParsed(t, strings.Repeat(text+" ", 5000)+text, all)
	isParsed(t, strings.Repeat("a ", 500000)+"a", []string{"a"})
	slices.Reverse(all)
	isParsed(t, strings.Join(all, " "), sixteen())
	for _, name := range all {
		isParsed(t, name+" "+text, sixteen())
		isParsed(t, text+" "+name, sixteen())
	}
	for _, more := range []string{"a", "c", "zz", "-", "A", ""} {
		isWrong(t, more+" "+text)
		isWrong(t, text+" "+more)
		isWrong(t, text+" "+text+" "+more)
		isWrong(t, strings.Repeat(text+" ", 5000)+more)
		for i := range 17 {
			isWrong(t, strings.Join(slices.Insert(sixteen(), i, more), " "))
		}
	}
	long := strings.Repeat("a ", 500000)
	isWrong(t, long)
	isWrong(t, " "+long+"a")
	isWrong(t, long+" a")
	isWrong(t, long+"A")
	isWrong(t, "A "+long+"a")
	isWrong(t, strings.Repeat(" ", 1000000))
	isWrong(t, strings.Repeat("a", 1000000))
}

// Names of all lengths, in a text of as many as may be.
func TestP7_1ParseLongNames(t *testing.T) {
	var names []string
	for i := range 16 {
		names = append(names, strings.Repeat("x", 31)+ofNames[i:i+1])
	}
	isParsed(t, strings.Join(names, " "), refSet(names))
	for i := range names {
		longer := slices.Clone(names)
		longer[i] += "x"
		isWrong(t, strings.Join(longer, " "))
	}
}

func TestP7_1ParseAsReference(t *testing.T) {
	chance := rand.New(rand.NewPCG(7, 1))
	for range 20000 {
		l := mixed(chance, anyScopes(chance, 20))
		if len(l) > 0 && chance.IntN(3) == 0 {
			l[chance.IntN(len(l))] = strange[chance.IntN(len(strange)-5)]
		}
		asReference(t, strings.Join(l, " "))
	}
}

func TestP7_1Print(t *testing.T) {
	for _, one := range []struct {
		l    []string
		want string
	}{
		{nil, ""},
		{[]string{}, ""},
		{[]string{"a"}, "a"},
		{[]string{"a", "b"}, "a b"},
		{[]string{"read", "write"}, "read write"},
		{sixteen(), "b d f h j l n p r t v x z zb zd zf"},
		// Of any list, as it stands.
		{[]string{"b", "a", "b", "b"}, "b a b b"},
		{[]string{""}, ""},
		{[]string{"", ""}, " "},
		{[]string{"", "a", "", ""}, " a  "},
		{[]string{" "}, " "},
		{[]string{"A", "b c", "\xff\x00"}, "A b c \xff\x00"},
		{[]string{"\u20ac", ",", "\n"}, "\u20ac , \n"},
		{append(sixteen(), "a"), "b d f h j l n p r t v x z zb zd zf a"},
		{slices.Repeat([]string{"a"}, 300000), strings.Repeat("a ", 299999) + "a"},
		{[]string{strings.Repeat("x", 300000), "y"}, strings.Repeat("x", 300000) + " y"},
	} {
		old := slices.Clone(one.l)
		if got := scope.Print(one.l); got != one.want {
			t.Errorf("Print(%.200q): %.200q, not %.200q", one.l, got, one.want)
		}
		isSame(t, "the list that was handed to Print", one.l, old)
	}
}
