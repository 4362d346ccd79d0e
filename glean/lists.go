package glean

// first: a list's first elements, at most so many; a piece of the list, not new memory.
func first[T any](most int, list []T) []T {
	return list[:min(most, len(list))]
}

// filled: a list with more elements behind it, as many as there is room for.
func filled[T any](most int, list []T, more ...T) []T {
	return append(list, first(most-len(list), more)...)
}

// kept: the elements of a list for which a test holds, in their order, as a list of its own.
func kept[T any](list []T, holds func(T) bool) []T {
	var some []T
	for _, x := range list {
		if holds(x) {
			some = append(some, x)
		}
	}
	return some
}

// counts: how often each element stands in a list.
func counts[T comparable](list []T) map[T]int {
	times := make(map[T]int, len(list))
	for _, x := range list {
		times[x]++
	}
	return times
}
