package pol

import "warrant/api"

// isRightRule tells whether a rule is right.
func isRightRule(r api.Rule) bool {
	return len(r.Scopes) <= api.MaxScopes && all(r.Scopes, isQuotable) &&
		len(r.When) <= 1 && all(r.When, isRightExpr)
}

// isRightExpr tells whether an expression is right.
func isRightExpr(e api.Expr) bool { return isRightWithin(e, 0) }

// isRightWithin tells whether an expression is right that stands within as many
// others. It goes no deeper than may be: so it ends even where an expression
// stands within itself.
func isRightWithin(e api.Expr, others int) bool {
	return others < api.MaxNodes && mayHave(e.Op, len(e.L)) && saysRight(e) &&
		all(e.L, func(part api.Expr) bool { return isRightWithin(part, others+1) })
}

// mayHave tells whether there is such an op, and it may have as many parts.
func mayHave(op, parts int) bool {
	switch op {
	case api.PBool, api.PInt, api.PText, api.PVar, api.PClaim:
		return parts == 0
	case api.PNot:
		return parts == 1
	case api.PAnd, api.POr, api.PEq, api.PNe, api.PLt, api.PLe, api.PHas:
		return parts == 2
	case api.PIn:
		return parts >= 2
	}
	return false
}

// saysRight tells whether an expression is right in what isn't its parts.
func saysRight(e api.Expr) bool {
	switch e.Op {
	case api.PBool:
		return e.S == "" && (e.N == 0 || e.N == 1)
	case api.PInt:
		return e.S == "" && -api.MaxInt <= e.N && e.N <= api.MaxInt
	case api.PText, api.PClaim:
		return e.N == 0 && isQuotable(e.S)
	case api.PVar:
		return e.N == 0 && isVariable(e.S)
	}
	return e.S == "" && e.N == 0
}
