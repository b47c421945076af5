package json

import (
	"warrant/api"
	"warrant/utf"
)

// checker goes through a value, and no further than to what isn't right: so it
// ends even where a value stands within itself.
type checker struct{ values int }

// right tells whether v, of that depth, is right as far as it was gone through.
func (c *checker) right(v api.Json, depth int) bool {
	c.values++
	if c.values > api.MaxValues || !clean(v) {
		return false
	}
	switch v.Kind {
	case api.JNull:
		return true
	case api.JBool:
		return v.N == 0 || v.N == 1
	case api.JInt:
		return -api.MaxInt <= v.N && v.N <= api.MaxInt
	case api.JText:
		return isUtf(v.S)
	case api.JObj:
		if len(v.K) != len(v.L) || !rightNames(v.K) {
			return false
		}
		fallthrough
	case api.JList:
		return depth <= api.MaxDeep && c.allRight(v.L, depth+1)
	}
	return false
}

// allRight tells whether all of l are right.
func (c *checker) allRight(l []api.Json, depth int) bool {
	for _, v := range l {
		if !c.right(v, depth) {
			return false
		}
	}
	return true
}

// clean tells whether v is zero in all that its kind doesn't name.
func clean(v api.Json) bool {
	switch v.Kind {
	case api.JBool, api.JInt:
		v.N = 0
	case api.JText:
		v.S = ""
	case api.JObj:
		v.K = nil
		fallthrough
	case api.JList:
		v.L = nil
	}
	return v.N == 0 && v.S == "" && len(v.L) == 0 && len(v.K) == 0
}

// rightNames tells whether names are UTF-8 and rising, none there twice.
func rightNames(names []string) bool {
	for i, name := range names {
		if !isUtf(name) || i > 0 && names[i-1] >= name {
			return false
		}
	}
	return true
}

// isUtf tells whether s is UTF-8.
func isUtf(s string) bool { return utf.Check([]byte(s)) == nil }
