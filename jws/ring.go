package jws

import (
	"slices"
	"strings"

	"warrant/api"
	"warrant/scope"
)

// right tells whether a key may be in a ring.
func right(key api.Key) bool {
	return scope.Name(key.Kid) && key.Secret != "" && len(key.Secret) <= api.MaxSecret
}

// hasKid tells whether one of keys has that Kid.
func hasKid(keys []api.Key, kid string) bool {
	return slices.ContainsFunc(keys, func(key api.Key) bool { return key.Kid == kid })
}

// gather tells the keys of all lists, in memory of their own.
func gather(lists ...[]api.Key) []api.Key {
	keys := slices.Concat(lists...)
	for i, key := range keys {
		keys[i] = api.Key{Kid: strings.Clone(key.Kid), Secret: strings.Clone(key.Secret)}
	}
	return keys
}
