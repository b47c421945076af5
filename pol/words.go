package pol

import (
	"warrant/api"
	"warrant/lex"
)

// The words and signs of policies, but for those that stand between operands.
const (
	permitWord = "permit"
	denyWord   = "deny"
	scopeWord  = "scope"
	whenWord   = "when"
	orWord     = "or"
	andWord    = "and"
	notWord    = "not"
	inWord     = "in"
	trueWord   = "true"
	falseWord  = "false"
	claimWord  = "claim"

	ruleEnd     = ";"
	comma       = ","
	opening     = "("
	closing     = ")"
	listOpening = "["
	listClosing = "]"
)

// hasWord and the others stand between two operands, and only there.
const (
	hasWord     = "has"
	equalSign   = "="
	unlikeSign  = "!="
	lessSign    = "<"
	mostSign    = "<="
	greaterSign = ">"
	leastSign   = ">="
)

// opOf tells the op that a word or sign between two operands stands for, and
// whether it is that of the two the other way round: 0, if it is no such.
func opOf(said string) (op int, turned bool) {
	switch said {
	case equalSign:
		return api.PEq, false
	case unlikeSign:
		return api.PNe, false
	case hasWord:
		return api.PHas, false
	case greaterSign:
		turned = true
		fallthrough
	case lessSign:
		return api.PLt, turned
	case leastSign:
		turned = true
		fallthrough
	case mostSign:
		return api.PLe, turned
	}
	return 0, false
}

// saidOf tells the word or sign that an op is written by between two operands:
// "", if it has none.
func saidOf(op int) string {
	switch op {
	case api.PEq:
		return equalSign
	case api.PNe:
		return unlikeSign
	case api.PHas:
		return hasWord
	case api.PLt:
		return lessSign
	case api.PLe:
		return mostSign
	}
	return ""
}

// isVariable tells whether s is a word that may name a variable.
func isVariable(s string) bool {
	switch s {
	case permitWord, denyWord, whenWord:
		fallthrough
	case andWord, orWord, notWord, inWord, hasWord:
		fallthrough
	case trueWord, falseWord, claimWord:
		return false
	}
	return lex.Spell(api.Tok{Kind: api.TWord, S: s}) != ""
}

// isQuotable tells whether s may stand within quotes.
func isQuotable(s string) bool {
	_, fits := lex.Quote(s)
	return fits
}
