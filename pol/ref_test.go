package pol_test

import (
	"errors"
	"fmt"
	"regexp"
	"strconv"
	"strings"
	"unicode/utf8"

	"warrant/api"
	"warrant/lex"
)

// kept are the words that name no variable.
var kept = strings.Fields("permit deny when and or not in has true false claim")

var refWord = regexp.MustCompile(`\A[a-z_]{1,32}\z`)

// refOps are the ops of words and signs between, and refSaid how they are
// written.
var (
	refOps  = map[string]int{"and": 7, "or": 8, "=": 9, "!=": 10, "<": 11, ">": 11, "<=": 12, ">=": 12, "has": 14}
	refSaid = map[int]string{7: "and", 8: "or", 9: "=", 10: "!=", 11: "<", 12: "<=", 14: "has"}
	// refLevels are how much ops bind; all others bind more.
	refLevels = map[int]int{8: 1, 7: 2, 6: 3, 9: 4, 10: 4, 11: 4, 12: 4, 13: 4, 14: 4}
)

// refLevel is how much an op binds.
func refLevel(op int) int {
	if level := refLevels[op]; level > 0 {
		return level
	}
	return 5
}

// refOpen is what was begun and isn't ended: a (, a [, a not, or a word or sign
// between.
type refOpen struct {
	said     string
	pos      int
	compared bool // of a (: whether a comparison stands ahead of it that isn't ended
	first    int  // of a [: the place of what is looked for
}

// refMachine goes through a policy token by token: it has a state that tells
// what may come, values that are read and a stack of what is open.
type refMachine struct {
	state    string
	rules    []api.Rule
	values   []api.Expr
	open     []refOpen
	compared bool
	inPos    int
	claimPos int
	name     string
}

// refParse tells what Parse must; or an error and its place.
func refParse(s string) ([]api.Rule, api.Errno, int) {
	toks, err := lex.Scan(s)
	if err != nil {
		var no api.Errno
		errors.As(err, &no)
		var at *api.At
		if errors.As(err, &at) {
			return nil, no, at.Pos
		}
		return nil, no, noPlace
	}
	m := refMachine{state: "rule"}
	for _, tok := range toks {
		if no := m.step(tok); no != 0 {
			return nil, no, tok.Pos
		}
	}
	return m.rules, 0, 0
}

// refKey is a token's word or sign, or its kind in great letters.
func refKey(tok api.Tok) string {
	return []string{"", tok.S, "TEXT", "INT", tok.S, "END"}[tok.Kind]
}

// step takes one more token, or tells what is wrong with it.
func (m *refMachine) step(tok api.Tok) api.Errno {
	key := refKey(tok)
	switch m.state + " " + key {
	case "rule END":
		return 0
	case "rule permit", "rule deny":
		if len(m.rules) == 16 {
			return api.ErrRules
		}
		m.rules = append(m.rules, api.Rule{Deny: key == "deny", Pos: tok.Pos})
		m.state = "permit"
		return 0
	case "permit scope", "texts ,":
		m.state = "text"
		return 0
	case "text TEXT":
		m.rule().Scopes = append(m.rule().Scopes, tok.S)
		m.state = "texts"
		return 0
	case "permit when", "texts when":
		m.state, m.compared = "begin", false
		return 0
	case "permit ;", "texts ;":
		m.state = "rule"
		return 0
	case "claim (":
		m.state = "name"
		return 0
	case "name TEXT":
		m.state, m.name = "named", tok.S
		return 0
	case "named )":
		m.value(at(m.claimPos, claim(m.name)))
		return 0
	case "in [":
		m.open = append(m.open, refOpen{said: "[", first: len(m.values) - 1})
		m.state = "operand"
		return 0
	}
	switch m.state {
	case "begin", "operand":
		return m.operand(key, tok)
	case "behind":
		return m.behind(key, tok)
	}
	return api.ErrParse
}

func (m *refMachine) rule() *api.Rule { return &m.rules[len(m.rules)-1] }

// value takes an operand.
func (m *refMachine) value(e api.Expr) {
	m.values = append(m.values, e)
	m.state = "behind"
}

// operand takes what an operand begins with, or a not.
func (m *refMachine) operand(key string, tok api.Tok) api.Errno {
	switch {
	case key == "not" && m.state == "begin", key == "(":
		if m.depth() == 12 {
			return api.ErrNest
		}
		m.open = append(m.open, refOpen{said: key, pos: tok.Pos, compared: m.compared})
		m.state = "begin"
		if key == "(" {
			m.compared = false
		}
	case key == "INT":
		m.value(at(tok.Pos, number(tok.N)))
	case key == "TEXT":
		m.value(at(tok.Pos, text(tok.S)))
	case key == "true", key == "false":
		m.value(at(tok.Pos, truth(map[string]int64{"true": 1}[key])))
	case key == "claim":
		m.state, m.claimPos = "claim", tok.Pos
	case refWord.MatchString(key) && !isKept(key):
		m.value(at(tok.Pos, variable(key)))
	default:
		return api.ErrParse
	}
	return 0
}

// depth is how many ( and nots are open.
func (m *refMachine) depth() int {
	n := 0
	for _, o := range m.open {
		if o.said == "(" || o.said == "not" {
			n++
		}
	}
	return n
}

// around is the ( or [ that is open, or "".
func (m *refMachine) around() string {
	for i := len(m.open) - 1; i >= 0; i-- {
		if said := m.open[i].said; said == "(" || said == "[" {
			return said
		}
	}
	return ""
}

// behind takes what stands behind an operand.
func (m *refMachine) behind(key string, tok api.Tok) api.Errno {
	around := m.around()
	switch {
	case around == "[" && key == ",":
		m.state = "operand"
	case around == "[" && key == "]":
		first := m.open[len(m.open)-1].first
		m.open = m.open[:len(m.open)-1]
		e := at(m.open[len(m.open)-1].pos, in(append(exprs(), m.values[first:]...)...))
		m.open = m.open[:len(m.open)-1]
		m.values = m.values[:first]
		m.value(e)
	case around == "[":
		return api.ErrParse
	case key == "and", key == "or":
		m.end(refLevel(refOps[key]))
		m.open = append(m.open, refOpen{said: key, pos: tok.Pos})
		m.state, m.compared = "begin", false
	case key == "in" && !m.compared, refOps[key] > 0 && !m.compared:
		m.open = append(m.open, refOpen{said: key, pos: tok.Pos})
		m.state, m.compared = "operand", true
		if key == "in" {
			m.state = "in"
		}
	case around == "(" && key == ")":
		m.end(0)
		m.compared = m.open[len(m.open)-1].compared
		m.open = m.open[:len(m.open)-1]
	case around == "" && key == ";":
		m.end(0)
		m.rule().When = m.values
		m.state, m.values = "rule", nil
	default:
		return api.ErrParse
	}
	return 0
}

// end makes expressions of what is open, up to a ( or [, and to what binds
// less.
func (m *refMachine) end(level int) {
	for len(m.open) > 0 {
		o := m.open[len(m.open)-1]
		op := refOps[o.said]
		if o.said == "not" {
			op = 6
		}
		if o.said == "(" || o.said == "[" || refLevel(op) < level {
			return
		}
		m.open = m.open[:len(m.open)-1]
		count := 2
		if op == 6 {
			count = 1
		}
		first := len(m.values) - count
		parts := append(exprs(), m.values[first:]...)
		if o.said == ">" || o.said == ">=" {
			parts[0], parts[1] = parts[1], parts[0]
		}
		m.values = append(m.values[:first], at(o.pos, api.Expr{Op: op, L: parts}))
	}
}

// isKept tells whether a word names no variable.
func isKept(s string) bool {
	for _, word := range kept {
		if s == word {
			return true
		}
	}
	return false
}

// refPrint tells what Print of right rules must.
func refPrint(l []api.Rule) string {
	var lines []string
	for _, r := range l {
		s := map[bool]string{false: "permit", true: "deny"}[r.Deny]
		if len(r.Scopes) > 0 {
			var quoted []string
			for _, scope := range r.Scopes {
				quoted = append(quoted, refQuote(scope))
			}
			s += " scope " + strings.Join(quoted, ", ")
		}
		if len(r.When) > 0 {
			s += " when " + refText(r.When[0], 1)
		}
		lines = append(lines, s+";")
	}
	return strings.Join(lines, "\n")
}

// refQuote is a text within quotes.
func refQuote(s string) string {
	return `"` + strings.NewReplacer(`"`, `\"`, `\`, `\\`).Replace(s) + `"`
}

// refText is an expression's text where a level of binding is asked.
func refText(e api.Expr, asked int) string {
	s := ""
	switch e.Op {
	case 1:
		s = []string{"false", "true"}[e.N]
	case 2:
		s = strconv.FormatInt(e.N, 10)
	case 3:
		s = refQuote(e.S)
	case 4:
		s = e.S
	case 5:
		s = "claim(" + refQuote(e.S) + ")"
	case 6:
		s = "not " + refText(e.L[0], 3)
	case 7:
		s = refText(e.L[0], 2) + " and " + refText(e.L[1], 3)
	case 8:
		s = refText(e.L[0], 1) + " or " + refText(e.L[1], 2)
	case 13:
		var items []string
		for _, item := range e.L[1:] {
			items = append(items, refText(item, 5))
		}
		s = refText(e.L[0], 5) + " in [" + strings.Join(items, ", ") + "]"
	default:
		s = fmt.Sprintf("%s %s %s", refText(e.L[0], 5), refSaid[e.Op], refText(e.L[1], 5))
	}
	if refLevel(e.Op) < asked {
		return "(" + s + ")"
	}
	return s
}

// refRight tells what Right must.
func refRight(l []api.Rule) bool {
	if len(l) > 16 {
		return false
	}
	for _, r := range l {
		if len(r.Scopes) > 16 || len(r.When) > 1 {
			return false
		}
		for _, s := range r.Scopes {
			if !refQuotable(s) {
				return false
			}
		}
		for _, e := range r.When {
			if !refRightExpr(e) || refHeight(e) > 200 {
				return false
			}
		}
	}
	return true
}

// refQuotable tells whether a text may be quoted.
func refQuotable(s string) bool {
	return utf8.ValidString(s) && !strings.ContainsFunc(s, func(c rune) bool { return c < 32 })
}

// refHeight is how many expressions are within one another.
func refHeight(e api.Expr) int {
	n := 0
	for _, part := range e.L {
		n = max(n, refHeight(part))
	}
	return n + 1
}

// refRightExpr tells whether an expression is right, but for its height.
func refRightExpr(e api.Expr) bool {
	least, most := 2, 2
	saysS, saysN := false, false
	switch e.Op {
	case 1:
		least, most, saysN = 0, 0, e.N == 0 || e.N == 1
	case 2:
		least, most, saysN = 0, 0, e.N <= maxInt && e.N >= -maxInt
	case 3, 5:
		least, most, saysS = 0, 0, refQuotable(e.S)
	case 4:
		least, most, saysS = 0, 0, refWord.MatchString(e.S) && !isKept(e.S)
	case 6:
		least, most = 1, 1
	case 7, 8, 9, 10, 11, 12, 14:
	case 13:
		most = 1 << 31
	default:
		return false
	}
	if len(e.L) < least || len(e.L) > most || !saysS && (e.S != "" || e.Op == 3 || e.Op == 4 || e.Op == 5) || !saysN && (e.N != 0 || e.Op == 1 || e.Op == 2) {
		return false
	}
	for _, part := range e.L {
		if !refRightExpr(part) {
			return false
		}
	}
	return true
}
