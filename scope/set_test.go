package scope_test

import (
	"math/rand/v2"
	"slices"
	"strconv"
	"strings"
	"testing"
	"unsafe"

	"warrant/scope"
)

func TestP7_2Has(t *testing.T) {
	for _, one := range []struct {
		l    []string
		name string
		want bool
	}{
		{nil, "", false},
		{nil, "a", false},
		{[]string{}, "a", false},
		{[]string{"a"}, "a", true},
		{[]string{"a"}, "b", false},
		{[]string{"a"}, "", false},
		{[]string{"a"}, "A", false},
		{[]string{"a"}, "aa", false},
		{[]string{"aa"}, "a", false},
		{[]string{"a b"}, "a", false},
		{[]string{"a", "b"}, "a b", false},
		{[]string{"a", "b", "c"}, "a", true},
		{[]string{"a", "b", "c"}, "b", true},
		{[]string{"a", "b", "c"}, "c", true},
		{[]string{"a", "b", "c"}, "d", false},
		{[]string{"a", "c"}, "b", false},
		// Of any list, in any order.
		{[]string{"c", "a", "b"}, "a", true},
		{[]string{"c", "b", "a"}, "c", true},
		{[]string{"c", "b", "a"}, "a", true},
		{[]string{"a", "a"}, "a", true},
		{[]string{""}, "", true},
		{[]string{"A", "b c", "\xff"}, "b c", true},
		{[]string{"A", "b c", "\xff"}, "\xff", true},
		{[]string{"\xff"}, "\xfe", false},
		{append(sixteen(), "a"), "a", true},
	} {
		old := slices.Clone(one.l)
		if got := scope.Has(one.l, one.name); got != one.want {
			t.Errorf("Has(%q, %q): %v", one.l, one.name, got)
		}
		isSame(t, "the list that was handed to Has", one.l, old)
	}
}

func TestP7_2Known(t *testing.T) {
	for _, one := range []struct {
		a, b, both, all, less string
		within                bool
	}{
		{"", "", "", "", "", true},
		{"a", "", "", "a", "a", false},
		{"", "a", "", "a", "", true},
		{"a", "a", "a", "a", "", true},
		{"a", "b", "", "a,b", "a", false},
		{"b", "a", "", "a,b", "b", false},
		{"a,b", "b,c", "b", "a,b,c", "a", false},
		{"a,b", "a,b,c", "a,b", "a,b,c", "", true},
		{"a,b,c", "a,b", "a,b", "a,b,c", "c", false},
		{"a,c", "b", "", "a,b,c", "a,c", false},
		{"a", "aa", "", "a,aa", "a", false},
		// In any order, and some of them again.
		{"c,a,b", "b,a", "a,b", "a,b,c", "c", false},
		{"b,a", "c,b,a", "a,b", "a,b,c", "", true},
		{"b,b,a,b", "b", "b", "a,b", "a", false},
		{"b,b,b", "a,b", "b", "a,b", "", true},
		{"b,b", "c,c,a,a", "", "a,b,c", "b", false},
		{"c,c,a,a", "b,b", "", "a,b,c", "a,c", false},
		{"z,_,:,9,0,.,-,a-,a", "a", "a", "-,.,0,9,:,_,a,a-,z", "-,.,0,9,:,_,a-,z", false},
		// Of any lists, whatever is in them.
		{"B,a,A", "A,\xff, ", "A", " ,A,B,a,\xff", "B,a", false},
		{"\u20ac,x y", "x,y,x y", "x y", "x,x y,y,\u20ac", "\u20ac", false},
		{",a,", "a", "a", ",a", ",", false},
		{",", ",,a", ",", ",a", "", true},
	} {
		a, b := parts(one.a), parts(one.b)
		of := one.a + "; " + one.b + ": "
		isSame(t, of+"Both", scope.Both(a, b), refSet(parts(one.both)))
		isSame(t, of+"All", scope.All(a, b), refSet(parts(one.all)))
		isSame(t, of+"Less", scope.Less(a, b), refSet(parts(one.less)))
		if got := scope.Within(a, b); got != one.within {
			t.Errorf("%sWithin: %v", of, got)
		}
		setsAsReference(t, a, b)
	}
}

// parts are the items of a text with commas between them; of the empty one
// none.
func parts(s string) []string {
	if s == "" {
		return nil
	}
	return strings.Split(s, ",")
}

// All lists of a few items, as long as they are short, with all others.
func TestP7_2Short(t *testing.T) {
	lists := [][]string{nil}
	for begin, length := 0, 0; length < 3; length++ {
		end := len(lists)
		for _, l := range lists[begin:end] {
			for _, name := range []string{"", "a", "aa", "b", "B"} {
				lists = append(lists, append(slices.Clone(l), name))
			}
		}
		begin = end
	}
	if len(lists) != 1+5+25+125 {
		t.Fatalf("%d lists", len(lists))
	}
	for _, a := range lists {
		for _, b := range lists {
			setsAsReference(t, a, b)
		}
	}
}

// One list as both.
func TestP7_2Same(t *testing.T) {
	for _, l := range [][]string{nil, {}, {"a"}, {"b", "a", "b"}, {"", " ", "A"}, sixteen()} {
		setsAsReference(t, l, l)
		setsAsReference(t, l, l[:len(l)/2])
		setsAsReference(t, l[len(l)/2:], l)
	}
}

// No limit is told for what isn't checked.
func TestP7_2Many(t *testing.T) {
	var even, third, both, less []string
	for i := range 60000 {
		s := strconv.Itoa(i * 7919 % 60000)
		if i%2 == 0 {
			even = append(even, s, s)
		}
		if i%3 == 0 {
			third = append(third, s)
		}
		switch i % 6 {
		case 0:
			both = append(both, s)
		case 2, 4:
			less = append(less, s)
		}
	}
	all := append(slices.Clone(third), less...)
	slices.Sort(both)
	slices.Sort(less)
	slices.Sort(all)
	isSame(t, "Both", scope.Both(even, third), both)
	isSame(t, "Both", scope.Both(third, even), both)
	isSame(t, "Less", scope.Less(even, third), less)
	isSame(t, "All", scope.All(even, third), all)
	isSame(t, "All", scope.All(third, even), all)
	if scope.Within(even, third) || scope.Within(third, even) || !scope.Within(both, third) || !scope.Within(even, all) {
		t.Error("Within of long lists")
	}
}

func TestP7_2AsReference(t *testing.T) {
	chance := rand.New(rand.NewPCG(7, 2))
	for range 20000 {
		names := append(anyScopes(chance, 12), strange[chance.IntN(len(strange)-5)])
		var a, b []string
		for range chance.IntN(12) {
			a = append(a, names[chance.IntN(len(names))])
		}
		for range chance.IntN(12) {
			b = append(b, names[chance.IntN(len(names))])
		}
		setsAsReference(t, a, b)
	}
}

// What is told lies in no other memory: it may be changed, and added to.
func TestP7_2NothingShared(t *testing.T) {
	a, b := make([]string, 0, 9), make([]string, 0, 9)
	a, b = append(a, "a", "b"), append(b, "b", "c")
	told := func() [][]string {
		parsed, _ := scope.Parse("b a")
		return [][]string{parsed, scope.Both(a, b), scope.All(a, b), scope.Less(a, b), scope.All(a, nil), scope.All(nil, a), scope.Both(a, a), scope.Less(a, nil)}
	}
	want := [][]string{{"a", "b"}, {"b"}, {"a", "b", "c"}, {"a"}, {"a", "b"}, {"a", "b"}, {"a", "b"}, {"a", "b"}}
	for range 3 {
		for i, l := range told() {
			isSame(t, "told", l, want[i])
			l = append(l, "x", "y")
			for j := range l {
				l[j] = "z"
			}
		}
	}
	isSame(t, "a", a[:cap(a)], []string{"a", "b", "", "", "", "", "", "", ""})
	isSame(t, "b", b[:cap(b)], []string{"b", "c", "", "", "", "", "", "", ""})
}

// Nor do the names' bytes.
func TestP7_2NoBytesShared(t *testing.T) {
	text := "write read"
	a := []string{text[:5], text[6:]}
	parsed, _ := scope.Parse(text)
	var told []string
	for _, l := range [][]string{parsed, scope.Both(a, a), scope.All(a, nil), scope.All(nil, a), scope.Less(a, nil), {scope.Print(a[:1]), scope.Print(a)}} {
		told = append(told, l...)
	}
	if len(told) != 12 {
		t.Fatalf("%q", told)
	}
	begin := uintptr(unsafe.Pointer(unsafe.StringData(text)))
	for _, name := range told {
		place := uintptr(unsafe.Pointer(unsafe.StringData(name)))
		if begin <= place && place < begin+uintptr(len(text)) {
			t.Errorf("%q lies within what was handed in", name)
		}
	}
}

func TestP7_3ParseOfPrint(t *testing.T) {
	chance := rand.New(rand.NewPCG(7, 3))
	for n := range 17 {
		isParsed(t, scope.Print(sixteen()[:n]), sixteen()[:n])
	}
	for range 20000 {
		l := anyScopes(chance, 16)
		isRight(t, l)
		isParsed(t, scope.Print(l), l)
		isParsed(t, scope.Print(mixed(chance, l)), l)
		again, _ := scope.Parse(scope.Print(mixed(chance, l)))
		isRight(t, again)
		if got, want := scope.Print(again), strings.Join(l, " "); got != want {
			t.Errorf("Print of Parse: %q, not %q", got, want)
		}
	}
}

func TestP7_3Sets(t *testing.T) {
	chance := rand.New(rand.NewPCG(7, 4))
	for range 20000 {
		names := anyScopes(chance, 12)
		a, b := part(chance, names), part(chance, names)
		both, less, all := scope.Both(a, b), scope.Less(a, b), scope.All(a, b)
		for _, l := range [][]string{a, b, both, less} {
			isRight(t, l)
		}
		if !scope.Within(both, a) || !scope.Within(both, b) || !scope.Within(less, a) || !scope.Within(a, all) || !scope.Within(b, all) {
			t.Errorf("%q, %q: one isn't within another", a, b)
		}
		isSame(t, "Less and Both", scope.All(less, both), a)
		isSame(t, "All and b", scope.All(less, b), all)
		isSame(t, "Both of Less and b", scope.Both(less, b), nil)
		isSame(t, "Both turned", scope.Both(b, a), both)
		isSame(t, "All turned", scope.All(b, a), all)
		if scope.Within(a, b) != (len(less) == 0) {
			t.Errorf("Within(%q, %q), but %q is left", a, b, less)
		}
	}
}

// part are some of the names of l, in their order.
func part(chance *rand.Rand, l []string) []string {
	var out []string
	for _, name := range l {
		if chance.IntN(2) == 0 {
			out = append(out, name)
		}
	}
	return out
}
