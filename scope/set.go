package scope

import (
	"slices"
	"strings"
)

// set tells those names of the lists that stay: rising, none twice.
func set(stays func(name string) bool, lists ...[]string) []string {
	var names []string
	for _, l := range lists {
		for _, name := range l {
			if stays(name) {
				names = append(names, name)
			}
		}
	}
	slices.Sort(names)
	names = slices.Compact(names)
	for i, name := range names {
		names[i] = strings.Clone(name)
	}
	return names
}

// among tells a function by which names are asked whether they are in l; it is
// quick however many they are.
func among(l []string) func(name string) bool {
	there := make(map[string]struct{}, len(l))
	for _, name := range l {
		there[name] = struct{}{}
	}
	return func(name string) bool {
		_, isThere := there[name]
		return isThere
	}
}
