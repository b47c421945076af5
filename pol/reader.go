package pol

import "warrant/api"

// reader goes through the tokens of a policy from the left. It never goes past
// the end, which may stand nowhere but behind the rules.
type reader struct {
	tokens []api.Tok
	at     int // the place of the token that is ahead
	rules  int // how many have begun
	depth  int // how many ( of operands and nots what is ahead stands within
}

// read tells the policy of tokens, or with what its reader gave up.
func read(tokens []api.Tok) (l []api.Rule, err error) {
	defer func() {
		switch given := recover().(type) {
		case nil:
		case *api.At:
			l, err = nil, given
		default:
			panic(given)
		}
	}()
	r := reader{tokens: tokens}
	for r.ahead().Kind != api.TEnd {
		l = append(l, r.rule())
	}
	return l, nil
}

// giveUp ends the reading at the token that is ahead, from however deep within
// it.
func (r *reader) giveUp(why error) { panic(&api.At{Pos: r.ahead().Pos, Err: why}) }

// ahead tells the token that is ahead.
func (r *reader) ahead() api.Tok { return r.tokens[r.at] }

// said tells the word or sign that is ahead: "", if neither is.
func (r *reader) said() string {
	switch t := r.ahead(); t.Kind {
	case api.TWord:
		fallthrough
	case api.TSign:
		return t.S
	}
	return ""
}

// goesOn reads that word or sign, if it is ahead, and tells whether it was.
func (r *reader) goesOn(said string) bool {
	if r.said() != said {
		return false
	}
	r.at++
	return true
}

// must reads that word or sign.
func (r *reader) must(said string) {
	if !r.goesOn(said) {
		r.giveUp(api.ErrParse)
	}
}

// text reads a text.
func (r *reader) text() string {
	t := r.ahead()
	if t.Kind != api.TText {
		r.giveUp(api.ErrParse)
	}
	r.at++
	return t.S
}

// listed reads items, at least one, with commas between them.
func listed[T any](r *reader, item func() T) []T {
	l := []T{item()}
	for r.goesOn(comma) {
		l = append(l, item())
	}
	return l
}

// rule reads a rule.
func (r *reader) rule() api.Rule {
	rule := api.Rule{Pos: r.ahead().Pos}
	switch r.said() {
	case denyWord:
		rule.Deny = true
		fallthrough
	case permitWord:
		r.begin()
	default:
		r.giveUp(api.ErrParse)
	}
	if r.goesOn(scopeWord) {
		rule.Scopes = listed(r, r.text)
	}
	if r.goesOn(whenWord) {
		rule.When = []api.Expr{r.either()}
	}
	r.must(ruleEnd)
	return rule
}

// begin reads the word with which one more rule begins.
func (r *reader) begin() {
	r.rules++
	if r.rules > api.MaxRules {
		r.giveUp(api.ErrRules)
	}
	r.at++
}

// either reads expressions with or between them.
func (r *reader) either() api.Expr { return r.chain(orWord, api.POr, r.both) }

// both reads expressions with and between them.
func (r *reader) both() api.Expr { return r.chain(andWord, api.PAnd, r.negated) }

// chain reads parts, at least one, with a word between them, and binds them from
// the left.
func (r *reader) chain(word string, op int, part func() api.Expr) api.Expr {
	e := part()
	for pos := r.ahead().Pos; r.goesOn(word); pos = r.ahead().Pos {
		e = api.Expr{Op: op, L: []api.Expr{e, part()}, Pos: pos}
	}
	return e
}

// negated reads an expression behind a not, or one of what binds more.
func (r *reader) negated() api.Expr {
	if r.said() != notWord {
		return r.compared()
	}
	e := api.Expr{Op: api.PNot, Pos: r.ahead().Pos}
	e.L = []api.Expr{r.deeper(r.negated)}
	return e
}

// deeper reads the ( or the not that is ahead, and what stands within it.
func (r *reader) deeper(inner func() api.Expr) api.Expr {
	if r.depth == api.MaxNest {
		r.giveUp(api.ErrNest)
	}
	r.at++
	r.depth++
	e := inner()
	r.depth--
	return e
}

// compared reads operands with a word or a sign between them, or one alone.
func (r *reader) compared() api.Expr {
	first := r.operand()
	pos := r.ahead().Pos
	if r.goesOn(inWord) {
		return api.Expr{Op: api.PIn, L: append([]api.Expr{first}, r.items()...), Pos: pos}
	}
	op, turned := opOf(r.said())
	if op == 0 {
		return first
	}
	r.at++
	second := r.operand()
	if turned {
		first, second = second, first
	}
	return api.Expr{Op: op, L: []api.Expr{first, second}, Pos: pos}
}

// items reads operands within [ ].
func (r *reader) items() []api.Expr {
	r.must(listOpening)
	l := listed(r, r.operand)
	r.must(listClosing)
	return l
}

// operand reads an operand.
func (r *reader) operand() api.Expr {
	t := r.ahead()
	switch {
	case r.said() == opening:
		e := r.deeper(r.either)
		r.must(closing)
		return e
	case t.Kind == api.TText:
		return api.Expr{Op: api.PText, S: r.text(), Pos: t.Pos}
	case t.Kind == api.TInt:
		r.at++
		return api.Expr{Op: api.PInt, N: t.N, Pos: t.Pos}
	}
	return r.named()
}

// named reads an operand that begins with a word.
func (r *reader) named() api.Expr {
	e := api.Expr{Op: api.PBool, Pos: r.ahead().Pos}
	switch said := r.said(); {
	case said == trueWord:
		e.N = 1
		fallthrough
	case said == falseWord:
		r.at++
	case said == claimWord:
		r.at++
		e.Op, e.S = api.PClaim, r.claimed()
	case isVariable(said):
		r.at++
		e.Op, e.S = api.PVar, said
	default:
		r.giveUp(api.ErrParse)
	}
	return e
}

// claimed reads the name of a claim, within ( ).
func (r *reader) claimed() string {
	r.must(opening)
	name := r.text()
	r.must(closing)
	return name
}
