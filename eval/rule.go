package eval

import (
	"slices"

	"warrant/api"
	"warrant/check"
	"warrant/json"
	"warrant/scope"
)

// What a policy may say.
const (
	permits = 1
	denies  = 2
	needs   = 3
)

// decide tells what a well-formed policy says, and what it wants to know, if it
// needs to.
func decide(l []api.Rule, a api.Ask) (verdict int, wanted []string) {
	denied, permitted := isFalse, isFalse
	var open []api.Rule // those of which the truth is none
	for _, r := range l {
		if !holdsFor(r, a.Scope) {
			continue
		}
		t := truthOfRule(r, a)
		if t == none {
			open = append(open, r)
		}
		if r.Deny {
			denied = max(denied, t)
		} else {
			permitted = max(permitted, t)
		}
	}
	wanted = untold(check.Claims(open), a.Claims)
	verdict = said(denied, permitted, len(wanted) > 0)
	if verdict != needs {
		return verdict, nil
	}
	return verdict, wanted
}

// said tells what a policy says whose rules deny and permit so, and that wants
// to know something, or doesn't.
func said(denied, permitted truth, wants bool) int {
	switch permitted {
	case isTrue:
		if denied == isFalse {
			return permits
		}
		fallthrough
	case none:
		if denied != isTrue && wants {
			return needs
		}
	}
	return denies
}

// holdsFor tells whether a rule holds for a scope.
func holdsFor(r api.Rule, name string) bool {
	return len(r.Scopes) == 0 || scope.Has(r.Scopes, name)
}

// truthOfRule tells the truth of a well-formed rule.
func truthOfRule(r api.Rule, a api.Ask) truth {
	if len(r.When) == 0 {
		return isTrue
	}
	return truthOf(worth(r.When[0], a))
}

// untold tells those of some names that claims have no member of.
func untold(names []string, claims api.Json) []string {
	return slices.DeleteFunc(names, func(name string) bool {
		_, isTold := json.Get(claims, name)
		return isTold
	})
}
