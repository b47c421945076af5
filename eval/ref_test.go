package eval_test

import (
	"maps"
	"slices"
	"testing"

	"warrant/api"
)

// refTruth is a worth that is a truth, by its number; a number is told as an
// int64, a text as a string, none as nil.
type refTruth int64

// refMember tells what claims have of a name, or nil.
func refMember(name string, a api.Ask) *api.Json {
	if a.Claims.Kind != 5 {
		return nil
	}
	for i, k := range a.Claims.K {
		if k == name && i < len(a.Claims.L) {
			return &a.Claims.L[i]
		}
		if k == name {
			return nil
		}
	}
	return nil
}

// refValue tells the worth that a JSON value is, or nil.
func refValue(v *api.Json) any {
	switch {
	case v == nil:
		return nil
	case v.Kind == 1:
		return refTruth(v.N)
	case v.Kind == 2:
		return v.N
	case v.Kind == 3:
		return v.S
	}
	return nil
}

// refJson tells a worth as a JSON value.
func refJson(worth any) api.Json {
	switch w := worth.(type) {
	case refTruth:
		return vTruth(int64(w))
	case int64:
		return vInt(w)
	case string:
		return vText(w)
	}
	return api.Json{}
}

// refTruthOf tells 't', 'f', or 'n'.
func refTruthOf(worth any) byte {
	w, isTruth := worth.(refTruth)
	switch {
	case !isTruth:
		return 'n'
	case w == 0:
		return 'f'
	}
	return 't'
}

// refOf tells a worth of 't', 'f', or 'n'.
func refOf(truth byte) any {
	switch truth {
	case 't':
		return refTruth(1)
	case 'f':
		return refTruth(0)
	}
	return nil
}

// refIf tells the worth of whether something is so.
func refIf(isSo bool) any {
	if isSo {
		return refTruth(1)
	}
	return refTruth(0)
}

// refFirst tells the first of some truths that is among those that are there,
// or else the last.
func refFirst(order string, there ...byte) byte {
	for _, truth := range []byte(order[:2]) {
		if slices.Contains(there, truth) {
			return truth
		}
	}
	return order[2]
}

// refSame tells what PEq does of two worths.
func refSame(x, y any) any {
	if x == nil || y == nil {
		return nil
	}
	_, xTruth := x.(refTruth)
	_, yTruth := y.(refTruth)
	_, xNumber := x.(int64)
	_, yNumber := y.(int64)
	if xTruth != yTruth || xNumber != yNumber {
		return nil
	}
	return refIf(x == y)
}

// refWorth tells the worth of a well-formed expression, by the words alone.
func refWorth(e api.Expr, a api.Ask) any {
	switch e.Op {
	case 1:
		return refTruth(e.N)
	case 2:
		return e.N
	case 3:
		return e.S
	case 4:
		return map[string]any{"subject": a.Subject, "client": a.Client, "owner": a.Owner, "resource": a.Resource, "scope": a.Scope, "time": a.Time}[e.S]
	case 5:
		return refValue(refMember(e.S, a))
	}
	var parts []any
	var all []byte
	for _, part := range e.L {
		w := refWorth(part, a)
		parts, all = append(parts, w), append(all, refTruthOf(w))
	}
	switch e.Op {
	case 6:
		return refOf(map[byte]byte{'t': 'f', 'f': 't', 'n': 'n'}[all[0]])
	case 7:
		return refOf(refFirst("fnt", all...))
	case 8:
		return refOf(refFirst("tnf", all...))
	case 9:
		return refSame(parts[0], parts[1])
	case 10:
		same := refTruthOf(refSame(parts[0], parts[1]))
		return refOf(map[byte]byte{'t': 'f', 'f': 't', 'n': 'n'}[same])
	case 11, 12:
		x, xNumber := parts[0].(int64)
		y, yNumber := parts[1].(int64)
		if !xNumber || !yNumber {
			return nil
		}
		return refIf(x < y || e.Op == 12 && x == y)
	case 13:
		var found []byte
		for _, item := range parts[1:] {
			found = append(found, refTruthOf(refSame(parts[0], item)))
		}
		return refOf(refFirst("tnf", found...))
	}
	list := refMember(e.L[0].S, a)
	if list == nil || list.Kind != 4 || parts[1] == nil {
		return nil
	}
	for _, item := range list.L {
		if refValue(&item) == parts[1] {
			return refTruth(1)
		}
	}
	return refTruth(0)
}

// refClaims puts the names of all claims of expressions into names.
func refClaims(l []api.Expr, names map[string]int) {
	for _, e := range l {
		if e.Op == 5 {
			names[e.S]++
		}
		refClaims(e.L, names)
	}
}

// refDecide tells what a well-formed policy says, by the words alone.
func refDecide(l []api.Rule, a api.Ask) (verdict int, wanted []string) {
	var denying, permitting []byte
	names := map[string]int{}
	for _, r := range l {
		if len(r.Scopes) > 0 && !slices.Contains(r.Scopes, a.Scope) {
			continue
		}
		truth := byte('t')
		for _, e := range r.When {
			truth = refTruthOf(refWorth(e, a))
		}
		if truth == 'n' {
			refClaims(r.When, names)
		}
		if r.Deny {
			denying = append(denying, truth)
		} else {
			permitting = append(permitting, truth)
		}
	}
	for name := range names {
		if refMember(name, a) == nil {
			wanted = append(wanted, name)
		}
	}
	slices.Sort(wanted)
	switch {
	case slices.Contains(denying, 't'):
		return denies, nil
	case !slices.Contains(denying, 'n') && slices.Contains(permitting, 't'):
		return permits, nil
	case (slices.Contains(permitting, 't') || slices.Contains(permitting, 'n')) && len(wanted) > 0:
		return needs, wanted
	}
	return denies, nil
}

// worthAsReference tells a test that the worth of a well-formed expression must
// be as the reference; it tells its kind.
func worthAsReference(t *testing.T, e api.Expr, a api.Ask) int {
	t.Helper()
	want := refJson(refWorth(e, a))
	if want.Kind == 0 {
		isNone(t, e, a)
	} else {
		isWorth(t, e, a, want)
	}
	return want.Kind
}

// saidAsReference tells a test that what a well-formed policy says must be as
// the reference; it tells that.
func saidAsReference(t *testing.T, l []api.Rule, a api.Ask) int {
	t.Helper()
	verdict, wanted := refDecide(l, a)
	isSaid(t, l, a, verdict, wanted...)
	return verdict
}

// scopesAsReference tells a test that what a well-formed policy says of scopes
// must be as the reference; it tells that.
func scopesAsReference(t *testing.T, l []api.Rule, a api.Ask, scopes []string) (permitted, wanted []string) {
	t.Helper()
	may, want := map[string]int{}, map[string]int{}
	for _, name := range scopes {
		verdict, names := refDecide(l, of(name, a))
		if verdict == permits {
			may[name]++
		}
		for _, one := range names {
			want[one]++
		}
	}
	permitted, wanted = slices.Sorted(maps.Keys(may)), slices.Sorted(maps.Keys(want))
	areScopes(t, l, a, scopes, permitted, wanted)
	return permitted, wanted
}
