package matching

// mapped returns what a function makes of the elements of a list.
func mapped[T, U any](l []T, change func(T) U) []U {
	result := make([]U, len(l))
	for i, x := range l {
		result[i] = change(x)
	}
	return result
}

// kept returns what a function makes of those elements of a list that it keeps.
func kept[T, U any](l []T, change func(T) (U, bool)) []U {
	var result []U
	for _, x := range l {
		if y, ok := change(x); ok {
			result = append(result, y)
		}
	}
	return result
}

// grouped divides a list by a number of each element.
func grouped[T any](l []T, number func(T) int) map[int][]T {
	groups := map[int][]T{}
	for _, x := range l {
		n := number(x)
		groups[n] = append(groups[n], x)
	}
	return groups
}
