package hedge

import "slices"

// kept: the elements of a list for which a test holds, in their order, as a list of its own.
func kept[T any](list []T, holds func(T) bool) []T {
	var some []T
	for _, x := range list {
		if holds(x) {
			some = append(some, x)
		}
	}
	return some
}

// each: what the elements of a list come to, in their order.
func each[A, B any](list []A, of func(A) B) []B {
	all := make([]B, 0, len(list))
	for _, x := range list {
		all = append(all, of(x))
	}
	return all
}

// ordered: the elements of a list by rising keys, of several of one key the first one, as a list of its own.
func ordered[T any, K comparable](list []T, key func(T) K, less func(a, b K) bool) []T {
	all := slices.Clone(list)
	// Elements of one key stay as they came: the first of them is the one that is kept.
	slices.SortStableFunc(all, func(a, b T) int {
		switch {
		case less(key(a), key(b)):
			return -1
		case less(key(b), key(a)):
			return 1
		}
		return 0
	})
	return slices.CompactFunc(all, func(a, b T) bool { return key(a) == key(b) })
}
