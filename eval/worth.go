package eval

import (
	"slices"

	"warrant/api"
	"warrant/json"
)

// The variables.
const (
	subjectVariable  = "subject"
	clientVariable   = "client"
	ownerVariable    = "owner"
	resourceVariable = "resource"
	scopeVariable    = "scope"
	timeVariable     = "time"
)

// isThere tells whether a worth is one. None is told as null, which is never a
// worth.
func isThere(v api.Json) bool { return v.Kind != api.JNull }

// worth tells the worth of a well-formed expression.
func worth(e api.Expr, a api.Ask) api.Json {
	switch e.Op {
	case api.PBool:
		return json.Bool(e.N != 0)
	case api.PInt:
		return json.Int(e.N)
	case api.PText:
		return json.Text(e.S)
	case api.PVar:
		return worthOfVariable(e.S, a)
	case api.PClaim:
		return worthOfClaim(e.S, a.Claims)
	}
	return worthOf(judge(e, a))
}

// worthOfVariable tells what is asked by that name.
func worthOfVariable(name string, a api.Ask) api.Json {
	switch name {
	case subjectVariable:
		return json.Text(a.Subject)
	case clientVariable:
		return json.Text(a.Client)
	case ownerVariable:
		return json.Text(a.Owner)
	case resourceVariable:
		return json.Text(a.Resource)
	case scopeVariable:
		return json.Text(a.Scope)
	case timeVariable:
		return json.Int(a.Time)
	}
	return api.Json{}
}

// worthOfClaim tells what claims have by that name, if it is of a kind that a
// worth may be.
func worthOfClaim(name string, claims api.Json) api.Json {
	v, _ := json.Get(claims, name)
	switch v.Kind {
	case api.JBool, api.JInt, api.JText:
		return v
	}
	return api.Json{}
}

// judge tells the truth of a well-formed expression that asks something of its
// parts.
func judge(e api.Expr, a api.Ask) truth {
	side := func(i int) api.Json { return worth(e.L[i], a) }
	switch e.Op {
	case api.PNot:
		return -truthOf(side(0))
	case api.PAnd:
		return min(truthOf(side(0)), truthOf(side(1)))
	case api.POr:
		return max(truthOf(side(0)), truthOf(side(1)))
	case api.PEq:
		return same(side(0), side(1))
	case api.PNe:
		return -same(side(0), side(1))
	case api.PLt:
		return less(side(0), side(1))
	case api.PLe:
		return -less(side(1), side(0))
	case api.PIn:
		sought, found := side(0), isFalse
		for i := range e.L[1:] {
			found = max(found, same(sought, side(i+1)))
		}
		return found
	case api.PHas:
		list, _ := json.Get(a.Claims, e.L[0].S)
		return has(list, side(1))
	}
	return none
}

// same tells whether two worths of one kind are the same.
func same(a, b api.Json) truth {
	if !isThere(a) || a.Kind != b.Kind {
		return none
	}
	return truthIf(json.Same(a, b))
}

// less tells whether a number is less than another.
func less(a, b api.Json) truth {
	if a.Kind != api.JInt || b.Kind != api.JInt {
		return none
	}
	return truthIf(a.N < b.N)
}

// has tells whether a worth is in a list.
func has(list, v api.Json) truth {
	if list.Kind != api.JList || !isThere(v) {
		return none
	}
	return truthIf(slices.ContainsFunc(list.L, func(item api.Json) bool { return json.Same(item, v) }))
}
