package eval

import (
	"warrant/api"
	"warrant/json"
)

// truth is one of three kinds. They rise, and lie the same way about none: so
// the greater of two is true if one is, the lesser false if one is, and what is
// less than none by as much is the other truth.
type truth int

const (
	isFalse truth = -1
	none    truth = 0
	isTrue  truth = 1
)

// truthOf tells the truth that a worth is: none, if it is no truth.
func truthOf(v api.Json) truth {
	if v.Kind != api.JBool {
		return none
	}
	return truthIf(v.N != 0)
}

// truthIf tells the truth of whether something is so.
func truthIf(isSo bool) truth {
	if isSo {
		return isTrue
	}
	return isFalse
}

// worthOf tells the worth of a truth.
func worthOf(t truth) api.Json {
	if t == none {
		return api.Json{}
	}
	return json.Bool(t == isTrue)
}
