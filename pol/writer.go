package pol

import (
	"strings"

	"warrant/api"
	"warrant/lex"
)

// Levels of binding, each of them more binding than the one ahead of it.
const (
	eitherLevel = iota
	bothLevel
	notLevel
	comparedLevel
	operandLevel
)

const (
	blank   = " "
	lineEnd = "\n"
)

// writer gathers the text of a right policy.
type writer struct{ text strings.Builder }

// put writes texts as they are.
func (w *writer) put(texts ...string) {
	for _, s := range texts {
		w.text.WriteString(s)
	}
}

// quoted writes a text within quotes.
func (w *writer) quoted(s string) { w.put(lex.Spell(api.Tok{Kind: api.TText, S: s})) }

// rules writes rules, each on a line.
func (w *writer) rules(l []api.Rule) {
	for i, r := range l {
		if i > 0 {
			w.put(lineEnd)
		}
		w.rule(r)
	}
}

// rule writes a rule.
func (w *writer) rule(r api.Rule) {
	if r.Deny {
		w.put(denyWord)
	} else {
		w.put(permitWord)
	}
	if len(r.Scopes) > 0 {
		w.put(blank, scopeWord, blank)
		listing(w, r.Scopes, w.quoted)
	}
	for _, e := range r.When {
		w.put(blank, whenWord, blank)
		w.expr(e, eitherLevel)
	}
	w.put(ruleEnd)
}

// listing writes items with commas between them.
func listing[T any](w *writer, l []T, write func(T)) {
	for i, item := range l {
		if i > 0 {
			w.put(comma, blank)
		}
		write(item)
	}
}

// expr writes an expression where one of that level of binding, or of a more
// binding one, may stand as it is.
func (w *writer) expr(e api.Expr, level int) {
	switch level {
	case eitherLevel:
		if e.Op == api.POr {
			w.two(e, eitherLevel, orWord, bothLevel)
			return
		}
		fallthrough
	case bothLevel:
		if e.Op == api.PAnd {
			w.two(e, bothLevel, andWord, notLevel)
			return
		}
		fallthrough
	case notLevel:
		if e.Op == api.PNot {
			w.put(notWord, blank)
			w.expr(e.L[0], notLevel)
			return
		}
		fallthrough
	case comparedLevel:
		if e.Op == api.PIn {
			w.in(e)
			return
		}
		if said := saidOf(e.Op); said != "" {
			w.two(e, operandLevel, said, operandLevel)
			return
		}
		fallthrough
	default:
		w.operand(e)
	}
}

// two writes the parts of e, of those levels, with a word or a sign between.
func (w *writer) two(e api.Expr, left int, said string, right int) {
	w.expr(e.L[0], left)
	w.put(blank, said, blank)
	w.expr(e.L[1], right)
}

// in writes what is looked for, and the items.
func (w *writer) in(e api.Expr) {
	w.operand(e.L[0])
	w.put(blank, inWord, blank, listOpening)
	listing(w, e.L[1:], w.operand)
	w.put(listClosing)
}

// operand writes an expression as an operand: within ( ), unless it is one.
func (w *writer) operand(e api.Expr) {
	switch e.Op {
	case api.PBool:
		w.truth(e.N)
	case api.PInt:
		w.put(lex.Spell(api.Tok{Kind: api.TInt, N: e.N}))
	case api.PText:
		w.quoted(e.S)
	case api.PVar:
		w.put(e.S)
	case api.PClaim:
		w.put(claimWord, opening)
		w.quoted(e.S)
		w.put(closing)
	default:
		w.put(opening)
		w.expr(e, eitherLevel)
		w.put(closing)
	}
}

// truth writes true or false.
func (w *writer) truth(n int64) {
	if n == 0 {
		w.put(falseWord)
	} else {
		w.put(trueWord)
	}
}
