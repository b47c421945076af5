package claim

import (
	"errors"

	"warrant/api"
	"warrant/json"
	"warrant/scope"
)

// The members of the text of a token's claims.
const (
	clientMember = "client_id"
	expMember    = "exp"
	iatMember    = "iat"
	issMember    = "iss"
	jtiMember    = "jti"
	scopeMember  = "scope"
	subMember    = "sub"
)

// The bounds of a token's claims.
const (
	maxText      = 64 // bytes of its issuer, its handle, its client
	firstVisible = '!'
	lastVisible  = '~'
	maxTime      = 2 * api.MaxNow
)

// refusal is ErrClaim, and what led to it.
type refusal struct{ why error }

// Error tells the words.
func (r *refusal) Error() string { return "claim: claims that aren't so, by " + r.why.Error() }

// Unwrap tells ErrClaim, which is found first, and what led to it.
func (r *refusal) Unwrap() []error { return []error{api.ErrClaim, r.why} }

// refuse tells ErrClaim that wraps another error; of one that is ErrClaim
// already, that one.
func refuse(why error) error {
	if errors.Is(why, api.ErrClaim) {
		return why
	}
	return &refusal{why}
}

// isVisible tells whether s may be an issuer, a handle, a client.
func isVisible(s string) bool {
	if s == "" || len(s) > maxText {
		return false
	}
	for i := range len(s) {
		if s[i] < firstVisible || s[i] > lastVisible {
			return false
		}
	}
	return true
}

// member tells what stands in an object by a name, if it is of that kind.
func member(v api.Json, name string, kind int) (api.Json, error) {
	m, there := json.Get(v, name)
	if !there || m.Kind != kind {
		return api.Json{}, api.ErrField
	}
	return m, nil
}

// asking tells the function by which v is asked for members of one kind. The
// first error of all that keep theirs in one place stays there, and no member is
// asked for behind it.
func asking[T any](v api.Json, kept *error, ask func(v api.Json, name string) (T, error)) func(name string) T {
	return func(name string) T {
		var answer T
		if *kept == nil {
			answer, *kept = ask(v, name)
		}
		return answer
	}
}

// readToken tells the claims that an object's members are, right or not; it must
// have no others.
func readToken(v api.Json) (Token, error) {
	var kept error
	text, number := asking(v, &kept, Text), asking(v, &kept, Int)
	t := Token{
		Issuer:  text(issMember),
		Handle:  text(jtiMember),
		Client:  text(clientMember),
		Subject: asking(v, &kept, subject)(subMember),
		Scopes:  asking(v, &kept, scopes)(scopeMember),
		Iat:     number(iatMember),
		Exp:     number(expMember),
	}
	if kept != nil {
		return Token{}, refuse(kept)
	}
	if !scope.Within(v.K, []string{clientMember, expMember, iatMember, issMember, jtiMember, scopeMember, subMember}) {
		return Token{}, api.ErrClaim
	}
	return t, nil
}

// above tells how an object is asked for a number above another.
func above(bound int64) func(v api.Json, name string) (int64, error) {
	return func(v api.Json, name string) (int64, error) {
		n, err := Int(v, name)
		if err == nil && n <= bound {
			return 0, api.ErrClaim
		}
		return n, err
	}
}

// subject tells the name that stands in an object by a name, or "" where nothing
// does.
func subject(v api.Json, name string) (string, error) {
	if !scope.Has(v.K, name) {
		return "", nil
	}
	s, err := Text(v, name)
	if err == nil && !scope.Name(s) {
		return "", api.ErrClaim
	}
	return s, err
}

// scopes tells the scopes whose text stands in an object by a name.
func scopes(v api.Json, name string) ([]string, error) {
	s, err := Text(v, name)
	if err != nil {
		return nil, err
	}
	l, err := scope.Parse(s)
	if err != nil {
		return nil, api.ErrClaim
	}
	return l, nil
}

// without tells an object without the members of some names.
func without(v api.Json, names ...string) api.Json {
	var members []json.Member
	for i, name := range v.K {
		if !scope.Has(names, name) {
			members = append(members, json.Member{Name: name, Val: v.L[i]})
		}
	}
	return json.Obj(members...)
}
