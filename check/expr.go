package check

import "warrant/api"

// Kinds beside those of JSON values.
const (
	anyKind = -1        // of a claim
	noKind  = api.JNull // of a variable that is none
)

// The variables.
const (
	subjectVariable  = "subject"
	clientVariable   = "client"
	ownerVariable    = "owner"
	resourceVariable = "resource"
	scopeVariable    = "scope"
	timeVariable     = "time"
)

// walk goes through an expression: through its parts in order, and to itself
// behind them.
func walk(e api.Expr, visit func(api.Expr)) {
	for _, part := range e.L {
		walk(part, visit)
	}
	visit(e)
}

// faultWithin tells the first of what is wrong with a right expression and all
// its parts, or nil.
func faultWithin(e api.Expr) error {
	var first error
	walk(e, func(e api.Expr) {
		if first == nil {
			first = faultOf(e)
		}
	})
	return first
}

// faultOf tells what is wrong with a right expression whose parts are well
// formed, or nil.
func faultOf(e api.Expr) error {
	switch {
	case kindOf(e) == noKind:
		return at(e.Pos, api.ErrName)
	case !hasFittingParts(e):
		return at(e.Pos, api.ErrType)
	}
	return nil
}

// kindOf tells the kind of a right expression, which doesn't hang on its parts.
func kindOf(e api.Expr) int {
	switch e.Op {
	case api.PInt:
		return api.JInt
	case api.PText:
		return api.JText
	case api.PVar:
		return kindOfVariable(e.S)
	case api.PClaim:
		return anyKind
	}
	return api.JBool
}

// kindOfVariable tells the kind of a variable: noKind, if there is none of that
// name.
func kindOfVariable(name string) int {
	switch name {
	case subjectVariable, clientVariable, ownerVariable, resourceVariable, scopeVariable:
		return api.JText
	case timeVariable:
		return api.JInt
	}
	return noKind
}

// hasFittingParts tells whether the parts of a right expression go with what it
// asks of them.
func hasFittingParts(e api.Expr) bool {
	asked := api.JBool
	switch e.Op {
	case api.PLt, api.PLe:
		asked = api.JInt
		fallthrough
	case api.PNot, api.PAnd, api.POr:
		return allGoWith(asked, e.L)
	case api.PEq, api.PNe, api.PIn:
		return allGoWith(kindOf(e.L[0]), e.L[1:])
	case api.PHas:
		return e.L[0].Op == api.PClaim
	}
	return true
}

// allGoWith tells whether the kind of each expression goes with one that is
// asked.
func allGoWith(asked int, l []api.Expr) bool {
	for _, e := range l {
		if !goesWith(kindOf(e), asked) {
			return false
		}
	}
	return true
}

// goesWith tells whether kinds go with one another.
func goesWith(a, b int) bool {
	switch {
	case a == anyKind, b == anyKind:
		fallthrough
	case a == b:
		return true
	}
	return false
}
