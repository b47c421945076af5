package pol_test

import (
	"strings"
	"testing"

	"warrant/api"
)

// The ops and limits are those numbers that the document tells.
func TestP12_1Numbers(t *testing.T) {
	if api.PBool != 1 || api.PInt != 2 || api.PText != 3 || api.PVar != 4 || api.PClaim != 5 || api.PNot != 6 || api.PAnd != 7 || api.POr != 8 || api.PEq != 9 ||
		api.PNe != 10 || api.PLt != 11 || api.PLe != 12 || api.PIn != 13 || api.PHas != 14 || api.MaxNest != 12 || api.MaxRules != 16 || api.MaxScopes != 16 || api.MaxNodes != 200 || api.MaxInt != maxInt {
		t.Error("package api isn't what was given")
	}
}

func TestP12_1Known(t *testing.T) {
	isParsed(t, `permit scope "read" when claim("age") >= 18 and not subject = owner;`,
		permit(texts("read"), at(44, and(
			at(38, le(at(41, number(18)), at(25, claim("age")))),
			at(48, not(at(60, eq(at(52, variable("subject")), at(62, variable("owner"))))))))))
	isParsed(t, "")
	isParsed(t, " \n# permit;")
	isParsed(t, "permit;", permit(nil))
	isParsed(t, " deny ;", ruleAt(1, deny(nil)))
	isParsed(t, "permit;deny;permit;", permit(nil), ruleAt(7, deny(nil)), ruleAt(12, permit(nil)))
	isParsed(t, `permit scope "a";`, permit(texts("a")))
	isParsed(t, `deny scope"b","a" , "b" ;`, deny(texts("b", "a", "b")))
	isParsed(t, `permit scope "", "\"\\";`, permit(texts("", `"\`)))
	isParsed(t, "deny when x;", deny(nil, at(10, variable("x"))))
	isParsed(t, `permit scope "a" when true;permit when false;`, permit(texts("a"), at(22, truth(1))), ruleAt(27, permit(nil, at(39, truth(0)))))
	isParsed(t, `permit when scope = "x";`, permit(nil, at(18, eq(at(12, variable("scope")), at(20, text("x"))))))
	isParsed(t, `permit scope "scope" when scope has scope;`, permit(texts("scope"), at(32, has(at(26, variable("scope")), at(36, variable("scope"))))))
	isParsed(t, "permit#x;\nwhen#;\n-7#\n;", permit(nil, at(17, number(-7))))
	isParsed(t, "permit when((x));", permit(nil, at(13, variable("x"))))
	isParsed(t, "permit when ( ( x = 1 ) ) ;", permit(nil, at(18, eq(at(16, variable("x")), at(20, number(1))))))
}

// A policy may be told that isn't right: of more scopes than Right takes.
func TestP12_1ManyScopes(t *testing.T) {
	for _, n := range []int{1, 2, 15, 16, 17, 18, 100, 254} {
		var l []string
		for range n {
			l = append(l, "a")
		}
		isParsed(t, "permit scope "+strings.TrimSuffix(times(`"a",`, n), ",")+";", permit(l))
		isParsed(t, "permit scope "+strings.TrimSuffix(times(`"a",`, n), ",")+" when x;", permit(l, at(18+4*n, variable("x"))))
	}
}

// Each operand.
func TestP12_1Operands(t *testing.T) {
	operands := map[string]api.Expr{
		"true": truth(1), "false": truth(0), "0": number(0), "1": number(1), "-1": number(-1), "9007199254740991": number(maxInt), "-9007199254740991": number(-maxInt),
		`""`: text(""), `"a"`: text("a"), `"\"\\é€"`: text(`"\é€`), `"permit"`: text("permit"), `"("`: text("("), `"true"`: text("true"), `";"`: text(";"), `"not"`: text("not"),
		`claim("")`: claim(""), `claim("age")`: claim("age"), `claim ( "age" )`: claim("age"), "claim#\n(\n\"(\"\t)": claim("("), `claim("\\")`: claim(`\`),
	}
	for _, s := range strings.Fields("subject client owner resource scope time x _ __ permit_ _permit permi nots no an ands o ors i inn ha hass whens whe denys den claims clai trues tru falsee fals scopes null end " + times("z", 32)) {
		operands[s] = variable(s)
	}
	for s, want := range operands {
		n := len(s)
		isParsed(t, "permit when "+s+";", permit(nil, at(12, want)))
		isParsed(t, "permit when("+s+");", permit(nil, at(12, want)))
		isParsed(t, "deny when not "+s+";", deny(nil, at(10, not(at(14, want)))))
		isParsed(t, "permit when x = "+s+";", permit(nil, at(14, eq(at(12, variable("x")), at(16, want)))))
		isParsed(t, "permit when "+s+" = x;", permit(nil, at(13+n, eq(at(12, want), at(15+n, variable("x"))))))
		isParsed(t, "permit when "+s+" in ["+s+","+s+"];", permit(nil, at(13+n, in(at(12, want), at(17+n, want), at(18+2*n, want)))))
		isParsed(t, "permit when "+s+" and "+s+";", permit(nil, at(13+n, and(at(12, want), at(17+n, want)))))
		isParsed(t, "permit when "+s+" or "+s+";", permit(nil, at(13+n, or(at(12, want), at(16+n, want)))))
		isParsed(t, `permit scope "a" when `+s+" ; permit;", permit(texts("a"), at(22, want)), ruleAt(25+n, permit(nil)))
	}
	for _, s := range strings.Fields("permit deny when and or not in has") {
		isWrong(t, "permit when x = "+s+";", api.ErrParse, 16)
		isWrong(t, "permit when x = "+s+"(x);", api.ErrParse, 16)
		isWrong(t, "permit when x in ["+s+"];", api.ErrParse, 18)
	}
	isWrong(t, "permit when claim;", api.ErrParse, 17)
	isWrong(t, "permit when claim = 1;", api.ErrParse, 18)
}

// Each sign between two operands, and where it stands.
func TestP12_1Signs(t *testing.T) {
	a, b := at(12, variable("a")), func(pos int) api.Expr { return at(pos, number(7)) }
	for _, c := range []struct {
		said   string
		op     int
		turned bool
	}{
		{"=", 9, false}, {"!=", 10, false}, {"<", 11, false}, {"<=", 12, false}, {">", 11, true}, {">=", 12, true}, {"has", 14, false}, {"and", 7, false}, {"or", 8, false},
	} {
		parts := exprs(a, b(15+len(c.said)))
		if c.turned {
			parts = exprs(parts[1], parts[0])
		}
		isParsed(t, "permit when a "+c.said+" 7;", permit(nil, api.Expr{Op: c.op, L: parts, Pos: 14}))
		isParsed(t, "permit when(a)"+c.said+"(7);", permit(nil, api.Expr{Op: c.op, L: parts, Pos: 14}))
		isWrong(t, "permit when a "+c.said+";", api.ErrParse, 14+len(c.said))
		isWrong(t, "permit when "+c.said+" a;", api.ErrParse, 12)
		isWrong(t, "permit when a "+c.said+" "+c.said+" a;", api.ErrParse, 15+len(c.said))
	}
	isParsed(t, "permit when a in [7];", permit(nil, at(14, in(a, b(18)))))
	isParsed(t, "permit when a in[7,7 , 7];", permit(nil, at(14, in(a, b(17), b(19), b(23)))))
	isParsed(t, "permit when (a) in [(7), (((a)))];", permit(nil, at(16, in(at(13, variable("a")), b(21), at(28, variable("a"))))))
	isRead(t, "permit when a in [(b = c), (not d), (e or f), (g in [h]), i];", when(in(variable("a"), eq(variable("b"), variable("c")), not(variable("d")), or(variable("e"), variable("f")), in(variable("g"), variable("h")), variable("i")))...)
}

// What binds more, and from which side.
func TestP12_1Binding(t *testing.T) {
	a, b, c, d, e := variable("a"), variable("b"), variable("c"), variable("d"), variable("e")
	for s, want := range map[string]api.Expr{
		"a or b or c":                   or(or(a, b), c),
		"a or (b or c)":                 or(a, or(b, c)),
		"(a or b) or c":                 or(or(a, b), c),
		"a and b and c":                 and(and(a, b), c),
		"a and (b and c)":               and(a, and(b, c)),
		"a or b or c or d or e":         or(or(or(or(a, b), c), d), e),
		"a and b and c and d and e":     and(and(and(and(a, b), c), d), e),
		"a or b and c":                  or(a, and(b, c)),
		"a and b or c":                  or(and(a, b), c),
		"(a or b) and c":                and(or(a, b), c),
		"a and (b or c)":                and(a, or(b, c)),
		"a or b and c or d":             or(or(a, and(b, c)), d),
		"a and b or c and d":            or(and(a, b), and(c, d)),
		"a and b or c and d or e":       or(or(and(a, b), and(c, d)), e),
		"a or b and c and d or e":       or(or(a, and(and(b, c), d)), e),
		"not a":                         not(a),
		"not not a":                     not(not(a)),
		"not not not a and b":           and(not(not(not(a))), b),
		"not a and b":                   and(not(a), b),
		"not a or b":                    or(not(a), b),
		"not (a and b)":                 not(and(a, b)),
		"not (a or b)":                  not(or(a, b)),
		"not(a)and(b)":                  and(not(a), b),
		"a and not b":                   and(a, not(b)),
		"a and not b and c":             and(and(a, not(b)), c),
		"a or not b and c":              or(a, and(not(b), c)),
		"a and not b or c":              or(and(a, not(b)), c),
		"a or not not b or c":           or(or(a, not(not(b))), c),
		"not a = b":                     not(eq(a, b)),
		"(not a) = b":                   eq(not(a), b),
		"not (a) = b":                   not(eq(a, b)),
		"not (a = b)":                   not(eq(a, b)),
		"a = (not b)":                   eq(a, not(b)),
		"not a in [b, c]":               not(in(a, b, c)),
		"(not a) in [b]":                in(not(a), b),
		"not a has b":                   not(has(a, b)),
		"not a > b":                     not(lt(b, a)),
		"a = b and c = d":               and(eq(a, b), eq(c, d)),
		"a = b or c != d":               or(eq(a, b), ne(c, d)),
		"a = b and not c <= d":          and(eq(a, b), not(le(c, d))),
		"a < b and c > d or e":          or(and(lt(a, b), lt(d, c)), e),
		"a >= b":                        le(b, a),
		"(a > b) >= (c < d)":            le(lt(c, d), lt(b, a)),
		"(a or b) > (c and d)":          lt(and(c, d), or(a, b)),
		"(a = b) = c":                   eq(eq(a, b), c),
		"a = (b = c)":                   eq(a, eq(b, c)),
		"a = (b)":                       eq(a, b),
		"((a)) = ((b))":                 eq(a, b),
		"(a in [b]) in [c]":             in(in(a, b), c),
		"a in [(b in [c]), d]":          in(a, in(b, c), d),
		"a in [b] and c in [d]":         and(in(a, b), in(c, d)),
		"a in [b] or not c has d":       or(in(a, b), not(has(c, d))),
		"(a has b) has (c has d)":       has(has(a, b), has(c, d)),
		"((((a or b) and c) = d) or e)": or(eq(and(or(a, b), c), d), e),
		`claim("a") has claim("b")`:     has(claim("a"), claim("b")),
		`"a" in ["a", 1, true, b]`:      in(text("a"), text("a"), number(1), truth(1), b),
		`claim("x") < 1 and 1 < 2`:      and(lt(claim("x"), number(1)), lt(number(1), number(2))),
	} {
		isRead(t, "permit when "+s+";", when(want)...)
		isRead(t, "permit when ("+s+");", when(want)...)
		isRead(t, "permit when e or ("+s+");", when(or(e, want))...)
		isRead(t, "permit when not ("+s+") and e;", when(and(not(want), e))...)
		isRead(t, `deny scope "a" when `+s+`; permit;`, deny(texts("a"), want), permit(nil))
		asReference(t, "permit when "+s+";")
		asReference(t, "permit when ( "+s+")and not a;")
	}
}

// Of two signs between operands the second can't stand there.
func TestP12_1NoChains(t *testing.T) {
	signs := texts("=", "!=", "<", "<=", ">", ">=", "has")
	for _, one := range signs {
		for _, other := range append(texts("in"), signs...) {
			isWrong(t, "permit when a "+one+" b "+other+" c;", api.ErrParse, 17+len(one))
			isWrong(t, "permit when a "+one+" (b) "+other+" c;", api.ErrParse, 19+len(one))
			isWrong(t, "permit when a in [b] "+other+" c;", api.ErrParse, 21)
			isWrong(t, "permit when a in [b "+other+" c];", api.ErrParse, 20)
			isWrong(t, "permit when not a "+one+" b "+other+" c;", api.ErrParse, 21+len(one))
			isWrong(t, "permit when (a "+one+" b "+other+" c);", api.ErrParse, 18+len(one))
			asReference(t, "permit when a "+one+" b and c "+other+" d;")
			asReference(t, "permit when a "+one+" (b "+other+" c) or d;")
			asReference(t, "permit when (a "+one+" b) "+other+" c;")
		}
	}
}

// Each token behind each beginning: where it may stand, the next may be wrong
// alone; where it may not, it is wrong itself.
func TestP12_1EachToken(t *testing.T) {
	const (
		leaf   = ` true false subject x scope claim ( "a" "(" "not" 0 -7 `
		begins = leaf + " not "
		signs  = " = != < <= > >= in has "
		binds  = " and or "
		quoted = ` "a" "(" "not" `
	)
	for ahead, may := range map[string]string{
		"": "permit deny", "permit": "scope when ;", "deny": "scope when ;", "permit scope": quoted, `permit scope "a"`: ", when ;", `deny scope "a",`: quoted, `deny scope "a", "b"`: ", when ;",
		"permit ;": "permit deny", "permit when x;": "permit deny", `permit scope "a";`: "permit deny", "permit when": begins, `permit scope "a" when`: begins,
		"permit when not": begins, "permit when not not": begins, "permit when (": begins, "permit when not (": begins, "permit when x and": begins, "permit when x or": begins, "permit when x = y and": begins, "permit when x and not": begins,
		"permit when x": signs + binds + ";", "permit when not x": signs + binds + ";", "permit when -7": signs + binds + ";", `permit when "a"`: signs + binds + ";", "permit when true": signs + binds + ";", `permit when claim("a")`: signs + binds + ";",
		"permit when (x)": signs + binds + ";", "permit when (x = y)": signs + binds + ";", "permit when (x and y)": signs + binds + ";", "permit when x or y": signs + binds + ";", "permit when not (x)": signs + binds + ";", "permit when x = y and z": signs + binds + ";",
		"permit when (x": signs + binds + ")", "permit when ((x)": signs + binds + ")", "permit when y = (x": signs + binds + ")", "permit when y in [(x": signs + binds + ")", "permit when (y = z or x": signs + binds + ")", "permit when (not x": signs + binds + ")",
		"permit when (x = y": binds + ")", "permit when (x = (y)": binds + ")", "permit when (x in [y]": binds + ")", "permit when ((x) has (y)": binds + ")", "permit when (a or not x = y": binds + ")",
		"permit when x = y": binds + ";", "permit when x has y": binds + ";", "permit when x in [y]": binds + ";", "permit when x >= (y)": binds + ";", "permit when (x) < y": binds + ";", "permit when a and x != y": binds + ";", "permit when not x <= y": binds + ";",
		"permit when x =": leaf, "permit when x has": leaf, "permit when x >": leaf, "permit when not x !=": leaf, "permit when (x) <=": leaf, "permit when x and y <": leaf, "permit when (x >=": leaf,
		"permit when x in": "[", "permit when (x) in": "[", "permit when x in [": leaf, "permit when x in [y,": leaf, "permit when x in [y, z,": leaf, "permit when x in [y": ", ]", "permit when x in [(y)": ", ]", "permit when x in [y, -7": ", ]", `permit when x in ["a", claim("b")`: ", ]",
		"permit when claim": "(", "permit when x = claim": "(", "permit when x in [claim": "(", "permit when claim(": quoted, "permit when x has claim(": quoted, `permit when claim("a"`: ")", `permit when (claim("a"`: ")", `permit when x in [claim("a"`: ")",
	} {
		allowed := strings.Fields(may)
		for _, tok := range oneOf {
			s := ahead + " " + tok
			place := len(ahead) + 1
			for _, other := range allowed {
				if other == tok {
					place = len(s)
				}
			}
			switch {
			case tok == ";" && place == len(s):
				asReference(t, s)
			default:
				isWrong(t, s, api.ErrParse, place)
			}
			asReference(t, s)
			asReference(t, s+" x")
			asReference(t, s+"\n"+tok)
		}
		if ahead == "" || strings.HasSuffix(ahead, ";") {
			asReference(t, ahead)
		} else {
			isWrong(t, ahead, api.ErrParse, len(ahead))
			isWrong(t, ahead+"  #x", api.ErrParse, len(ahead)+4)
		}
	}
}

func TestP12_1Wrong(t *testing.T) {
	for _, c := range []struct {
		s     string
		place int
	}{
		{"permit when;", 11}, {"permit", 6}, {"permit ", 7}, {"permit # x", 10}, {";", 0}, {" ;", 1}, {"permit;;", 7}, {"permit;x", 7}, {"permit; when", 8}, {"scope", 0}, {"permits;", 0}, {"permit deny;", 7}, {"permit permit;", 7},
		{"x", 0}, {"7", 0}, {`"permit";`, 0}, {"(permit);", 0}, {"permit;(", 7}, {"permit x;", 7}, {`permit "a";`, 7}, {"permit (x);", 7}, {"permit;deny", 11},
		{"permit scope;", 12}, {"permit scope a;", 13}, {`permit scope "a",;`, 17}, {`permit scope ,"a";`, 13}, {`permit scope "a" "b";`, 17}, {`permit scope ["a"];`, 13}, {`permit scope ("a");`, 13}, {"permit scope 7;", 13},
		{`permit scope "a" scope "b";`, 17}, {`permit when x scope "a";`, 14}, {"permit scope when x;", 13}, {`permit scope "a", when x;`, 18}, {"permit when x when y;", 14}, {"permit when x permit;", 14}, {`permit scope claim("a");`, 13}, {`permit scope "a" and "b";`, 17},
		{"permit when ();", 13}, {"permit when (;", 13}, {"permit when (x;", 14}, {"permit when x);", 13}, {"permit when (x));", 15}, {"permit when x y;", 14}, {"permit when x 7;", 14}, {`permit when x "a";`, 14}, {"permit when x(y);", 13}, {"permit when (x)(y);", 15}, {"permit when x not y;", 14}, {"permit when x not in [y];", 14},
		{"permit when x and;", 17}, {"permit when and x;", 12}, {"permit when x and or y;", 18}, {"permit when x or;", 16}, {"permit when not;", 15}, {"permit when not and x;", 16}, {"permit when x and (y or);", 23}, {"permit when x = not y;", 16}, {"permit when x in [not y];", 18}, {"permit when x = y = z;", 18}, {"permit when x == y;", 15}, {"permit when x =", 15},
		{"permit when x in y;", 17}, {"permit when x in (y);", 17}, {"permit when x in [];", 18}, {"permit when x in [y;", 19}, {"permit when x in [y,];", 20}, {"permit when x in [,y];", 18}, {"permit when x in [y z];", 20}, {"permit when x in [y and z];", 20}, {"permit when x in [y], z;", 20}, {"permit when x in [y]];", 20}, {"permit when x in [[y]];", 18}, {"permit when x in [y);", 19}, {"permit when (x in [y)];", 20}, {"permit when [x];", 12}, {"permit when x];", 13}, {"permit when x, y;", 13}, {"permit when (x, y);", 14},
		{"permit when claim();", 18}, {"permit when claim(age);", 18}, {"permit when claim(7);", 18}, {`permit when claim "age";`, 18}, {`permit when claim("a";`, 21}, {`permit when claim("a", "b");`, 21}, {`permit when claim(("a"));`, 18}, {"permit when claim;", 17}, {`permit when claim["a"];`, 17}, {`permit when subject("a");`, 19}, {`permit when (claim)("a");`, 18}, {"permit when true(x);", 16},
		{"permit when x has;", 17}, {"permit when has x;", 12}, {"permit when x has [y];", 18}, {"permit when x has y has z;", 20}, {"permit when x in [y] in [z];", 21}, {"deny when x and y or", 20},
	} {
		isWrong(t, c.s, api.ErrParse, c.place)
		isWrong(t, "permit;\n"+c.s, api.ErrParse, 8+c.place)
		isWrong(t, "#é\n"+c.s, api.ErrParse, 4+c.place)
		asReference(t, c.s)
	}
}
