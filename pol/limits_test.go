package pol_test

import (
	"fmt"
	"math/rand/v2"
	"testing"

	"warrant/api"
	"warrant/pol"
)

// nested are the beginnings of operands and nots, one within the other, and how
// each of them is ended.
func nested(chance *rand.Rand, deep int) (begins []string, ends string) {
	for range deep {
		s := anyOf(chance, "(", "(", "not ", "not ", "x and (", "x = (", "not ")
		begins = append(begins, s)
		if s != "not " {
			ends = ")" + ends
		}
	}
	return begins, ends
}

func TestP12_1Nest(t *testing.T) {
	for _, c := range []struct {
		begin string
		per   int
	}{
		{"(", 1}, {"not ", 1}, {"not(", 2}, {"(not ", 2}, {"not (x or ", 2}, {"((", 2}, {"not not ", 2}, {"(x and ", 1}, {"(x = (", 2}, {"(x in [y, (", 2}, {"(x or not ", 2},
		{"(x or (y and not ", 3}, {`(claim("a") = (`, 2}, {"(x and not (y) and not (", 3},
	} {
		begin, per := c.begin, c.per
		const ahead = "permit when "
		most := ahead + times(begin, 12/per)
		if l, no, place := refParse(most); no != api.ErrParse || place != len(most) {
			t.Fatalf("the reference: %v, %v, %v", l, no, place)
		}
		// Of the depth 12 all is as it was.
		isWrong(t, most, api.ErrParse, len(most))
		isWrong(t, most+";", api.ErrParse, len(most))
		isWrong(t, most+"x =;", api.ErrParse, len(most)+3)
		isWrong(t, most+`claim("a"`, api.ErrParse, len(most)+9)
		asReference(t, most+"x")
		asReference(t, most+`claim("a")`)
		// The next is too deep, whatever stands behind it.
		for _, tail := range []string{"", ";", "x;", ")", " =", "x))))))))))))", "when"} {
			isWrong(t, most+begin+tail, api.ErrNest, len(most))
		}
		for _, s := range []string{"(", "not", "not x", "(x)", "(x", "not(x)", "not not"} {
			isWrong(t, most+s, api.ErrNest, len(most))
			asReference(t, most+"x = y or "+s)
		}
		isWrong(t, most+"x = (y)", api.ErrNest, len(most)+4)
		isWrong(t, most+"x has (", api.ErrNest, len(most)+6)
		isWrong(t, most+"x in [(", api.ErrNest, len(most)+6)
		isWrong(t, most+"x in [y, (z)]", api.ErrNest, len(most)+9)
		// What can't stand there is that, even if it were too deep.
		isWrong(t, most+"x = not y", api.ErrParse, len(most)+4)
		isWrong(t, most+"x (", api.ErrParse, len(most)+2)
		isWrong(t, most+"x not", api.ErrParse, len(most)+2)
		isWrong(t, most+"x in (", api.ErrParse, len(most)+5)
		isWrong(t, most+"claim((", api.ErrParse, len(most)+6)
		isWrong(t, most+"x in [not", api.ErrParse, len(most)+6)
		isWrong(t, most+"x = y (", api.ErrParse, len(most)+6)
	}
}

func refNo(s string) api.Errno {
	_, no, _ := refParse(s)
	return no
}

func refPlace(s string) int {
	_, _, place := refParse(s)
	return place
}

// What is ended counts no more, and the ( of claim for nothing.
func TestP12_1NestEnds(t *testing.T) {
	x, y := variable("x"), variable("y")
	deepest := times("(", 12) + "x" + times(")", 12)
	isRead(t, "permit when "+deepest+";", when(x)...)
	isRead(t, "permit when "+deepest+" = "+deepest+";", when(eq(x, x))...)
	isRead(t, "permit when "+deepest+" and "+deepest+" or "+deepest+";", when(or(and(x, x), x))...)
	isRead(t, "permit when "+deepest+" in ["+deepest+", "+deepest+"];", when(in(x, x, x))...)
	isRead(t, "permit when "+deepest+";permit when "+deepest+";", permit(nil, x), permit(nil, x))
	isWrong(t, "permit when "+deepest+" = ("+deepest+");", api.ErrNest, 12+25+3+12)
	isWrong(t, "permit when "+deepest+" and not "+deepest+";", api.ErrNest, 12+25+9+11)
	isWrong(t, "permit when not "+deepest+";", api.ErrNest, 16+11)
	isWrong(t, "permit when ("+deepest+");", api.ErrNest, 12+12)

	nots := times("not ", 12)
	deep := x
	for range 12 {
		deep = not(deep)
	}
	isRead(t, "permit when "+nots+"x;", when(deep)...)
	isRead(t, "permit when "+nots+"x and "+nots+"x or "+nots+"x;", when(or(and(deep, deep), deep))...)
	isRead(t, "permit when "+nots+"x = y;permit when "+nots+"x;", permit(nil, deepOf(eq(x, y))), permit(nil, deep))
	isWrong(t, "permit when "+nots+"x and "+nots+"not x;", api.ErrNest, 12+48+6+48)
	isWrong(t, "permit when "+nots+"x = (y);", api.ErrNest, 12+48+4)
	isWrong(t, "permit when "+nots+"x in [y, (y)];", api.ErrNest, 12+48+9)
	isRead(t, "permit when "+nots+"x in [y] and (x);", when(and(deepOf(in(x, y)), x))...)
	isRead(t, "permit when "+nots+"x = y or (x = (not (y)));", when(or(deepOf(eq(x, y)), eq(x, not(y))))...)

	isRead(t, "permit when "+nots+`claim("a") = claim("b");`, when(deepOf(eq(claim("a"), claim("b"))))...)
	isRead(t, "permit when "+times("(", 12)+`claim("a") in [claim("b"), claim("c")]`+times(")", 12)+";", when(in(claim("a"), claim("b"), claim("c")))...)
	isRead(t, "permit when "+times(`claim("a") and `, 60)+nots+`claim("b");`, when(and(left(and, claim("a"), 60), deepOf(claim("b"))))...)
}

// deepOf is e within twelve nots.
func deepOf(e api.Expr) api.Expr {
	for range 12 {
		e = not(e)
	}
	return e
}

// left are n times e, bound from the left.
func left(of func(...api.Expr) api.Expr, e api.Expr, n int) api.Expr {
	whole := e
	for range n - 1 {
		whole = of(whole, e)
	}
	return whole
}

func TestP12_1NestAny(t *testing.T) {
	chance := rand.New(rand.NewPCG(12, 11))
	told := map[api.Errno]int{}
	for range 20000 {
		begins, ends := nested(chance, 8+chance.IntN(10))
		s := "permit when "
		for _, begin := range begins {
			s += begin
		}
		s += anyOf(chance, "x", `claim("a")`, "x = y", "x in [(y)]", "") + anyOf(chance, ends, ends, "") + anyOf(chance, ";", " and x;", " and not (x);", " or "+s[12:])
		asReference(t, s)
		told[refNo(s)]++
	}
	if told[0] < 500 || told[api.ErrNest] < 2000 || told[api.ErrParse] < 2000 {
		t.Errorf("too few of some: %v", told)
	}
}

func TestP12_1Rules(t *testing.T) {
	for _, s := range []string{"permit;", "deny;", "permit when x;\n", `deny scope "a", "b";`, `permit scope "a" when not (x = y) ; # z` + "\n"} {
		one, err := pol.Parse(s)
		if err != nil || len(one) != 1 {
			t.Fatalf("Parse(%q): %v, %v", s, one, err)
		}
		for n := range 17 {
			l, err := pol.Parse(times(s, n))
			if err != nil || len(l) != n {
				t.Errorf("Parse of %d %q: %v, %v", n, s, l, err)
			}
			for i, r := range l {
				if r.Pos != i*len(s) || !isSame(unplaced(rules(r)), unplaced(one)) {
					t.Errorf("rule %d of %q: %v", i, s, show(rules(r)))
				}
			}
		}
		all := times(s, 16)
		for _, more := range []string{"permit", "deny", "permit;", "deny;", "permit when", "deny when (", "permit x", "permit;x", "permit deny", "deny when " + times("(", 13), s + s, times("deny;", 20)} {
			isWrong(t, all+more, api.ErrRules, len(all))
			isWrong(t, all+" #;\n"+more, api.ErrRules, len(all)+4)
		}
		for _, more := range []string{"x", "7", ";", "when", "scope", "(", "not", `"permit"`, "permits", "claim", "true"} {
			isWrong(t, all+more+" permit;", api.ErrParse, len(all))
		}
		isWrong(t, times(s, 15)+"permit x;"+all, api.ErrParse, 15*len(s)+7)
		isWrong(t, times(s, 15)+"deny when "+times("not ", 13)+";"+all, api.ErrNest, 15*len(s)+10+48)
	}
	isWrong(t, times("permit;", 292), api.ErrMany, 1792)
	isWrong(t, times("permit;", 17), api.ErrRules, 112)
	isWrong(t, times("permit;", 256), api.ErrRules, 112)
}

// What lex tells comes first, with its place.
func TestP12_1Lex(t *testing.T) {
	for _, c := range []struct {
		s     string
		no    api.Errno
		place int
	}{
		{"!", api.ErrLex, 0}, {"permit when !", api.ErrLex, 12}, {"when x !", api.ErrLex, 7}, {"permit; A", api.ErrLex, 8}, {`permit scope "a`, api.ErrLex, 15}, {"permit scope \"\n\";", api.ErrLex, 14}, {"\xff", api.ErrLex, 0}, {"permit when \"a\xff\";", api.ErrLex, 14},
		{"permit when -x;", api.ErrLex, 12}, {"permit when x - 1;", api.ErrLex, 14}, {times("a", 33), api.ErrLex, 0}, {"permit when " + times("b", 33), api.ErrLex, 12}, {"permit when x < 1.5;", api.ErrLex, 17}, {"permit when a.b;", api.ErrLex, 13}, {"permit {", api.ErrLex, 7},
		{"permit when 9007199254740992;", api.ErrOver, 12}, {"permit when x < -9007199254740992;", api.ErrOver, 16}, {"9007199254740992", api.ErrOver, 0}, {"; 9007199254740992 !", api.ErrOver, 2}, {"when ! 9007199254740992", api.ErrLex, 5},
		{times(";", 513), api.ErrMany, 512}, {times("permit when x;", 130)[:1820], api.ErrMany, 1792}, {"permit when " + times("(", 600), api.ErrMany, 12 + 510}, {times("( ", 512) + "!", api.ErrLex, 1024}, {times("x ", 512), api.ErrParse, 0},
		{times(" ", 2049), api.ErrLong, noPlace}, {times("permit;", 293), api.ErrLong, noPlace}, {"! " + times("x", 2048), api.ErrLong, noPlace}, {"permit;" + times(" ", 2042), api.ErrLong, noPlace},
	} {
		isWrong(t, c.s, c.no, c.place)
		asReference(t, c.s)
	}
	isParsed(t, "permit;"+times(" ", 2041), permit(nil))
	isParsed(t, times("\n", 2041)+"permit;", ruleAt(2041, permit(nil)))
	isParsed(t, times(" ", 2048))
}

// The first of several faults, from the left, if lex tells none.
func TestP12_1First(t *testing.T) {
	parse := []struct {
		s     string
		place int
	}{{"permit x;", 7}, {"permit when;", 11}, {"when x;", 0}, {"deny when (x;", 12}, {"permit scope x;", 13}, {"deny when x = not y;", 14}}
	nest := "permit when " + times("not ", 13) + "x;"
	for _, one := range parse {
		for _, other := range parse {
			isWrong(t, one.s+other.s, api.ErrParse, one.place)
			isWrong(t, "permit;"+one.s+" "+other.s, api.ErrParse, 7+one.place)
		}
		isWrong(t, one.s+nest, api.ErrParse, one.place)
		isWrong(t, nest+one.s, api.ErrNest, 60)
		isWrong(t, one.s+times("deny;", 17), api.ErrParse, one.place)
		isWrong(t, times("deny;", 15)+one.s+"deny;deny;", api.ErrParse, 75+one.place)
		isWrong(t, one.s+" !", api.ErrLex, len(one.s)+1)
		isWrong(t, one.s+" -9007199254740992", api.ErrOver, len(one.s)+1)
		isWrong(t, one.s+times(";", 520), api.ErrMany, refPlace(one.s+times(";", 520)))
	}
	isWrong(t, times("deny;", 16)+nest, api.ErrRules, 80)
	isWrong(t, times("deny;", 15)+nest+"deny;deny;", api.ErrNest, 75+60)
	isWrong(t, nest+times("deny;", 16), api.ErrNest, 60)
	isWrong(t, nest+"!", api.ErrLex, len(nest))
	isWrong(t, times("deny;", 17)+"!", api.ErrLex, 85)
	isWrong(t, "permit when "+times("(", 13)+")", api.ErrNest, 24)
	isWrong(t, "permit when "+times("(", 12)+")"+times("(", 13), api.ErrParse, 24)
}

// As many tokens as may be, of one expression.
func TestP12_1Great(t *testing.T) {
	x := variable("x")
	for _, c := range []struct {
		of   func(...api.Expr) api.Expr
		said string
	}{{and, " and x"}, {or, " or x"}} {
		for _, n := range []int{2, 100, 199, 200, 201, 250, 254} {
			isRead(t, "permit when x"+times(c.said, n-1)+";", when(left(c.of, x, n))...)
		}
		isRead(t, "permit when x"+times(c.said, 254)+";", when(left(c.of, x, 255))...)
		isWrong(t, "permit when x"+times(c.said, 255)+";", api.ErrMany, 12+255*len(c.said))
	}
	items := exprs(x)
	for range 252 {
		items = append(items, number(7))
	}
	isRead(t, "permit when x in [7"+times(",7", 251)+"];", when(in(items...))...)
	isWrong(t, "permit when x in [7"+times(",7", 253)+"];", api.ErrMany, 19+506)
	for _, n := range []int{3, 50, 100} {
		s := "permit when x"
		for i := range n {
			s += fmt.Sprintf(" %s not (x = %d)", []string{"and", "or"}[i%2], i)
		}
		asReference(t, s)
		asReference(t, s+";")
	}
}
