package unify

import (
	"slices"

	"leasehold/api"
)

// isUnsolved reports whether an element of a substitution leaves its variable unsolved.
func isUnsolved(element api.Type) bool {
	return element.Kind == 0 && element.Id == 0 && len(element.Args) == 0
}

// isOver reports whether a type is over a substitution.
func isOver(s []api.Type, t api.Type) bool {
	if t.Kind == api.TyVar {
		return t.Id >= 0 && t.Id < len(s) && len(t.Args) == 0
	}
	other := func(a api.Type) bool { return !isOver(s, a) }
	return t.Kind >= api.TyInt && t.Kind < api.TyVar && !slices.ContainsFunc(t.Args, other)
}

// isElement reports whether a type can be an element of a substitution, as far as the type itself tells.
func isElement(s []api.Type, t api.Type) bool { return isWithin(api.MaxDepth, t) && isOver(s, t) }

func isWellFormed(s []api.Type) bool {
	for _, t := range s {
		if !isUnsolved(t) && !isElement(s, t) {
			return false
		}
	}
	depths, finite := depthsOf(s)
	return finite && !slices.ContainsFunc(depths, isTooDeep)
}

func isTooDeep(depth int) bool { return depth > api.MaxDepth }

// variablesOf returns the variables in a type, each with the number of levels that are above it where it is deepest.
func variablesOf(t api.Type) map[int]int {
	above := map[int]int{}
	var collect func(t api.Type, levels int)
	collect = func(t api.Type, levels int) {
		if t.Kind == api.TyVar {
			above[t.Id] = max(above[t.Id], levels)
		}
		for _, a := range t.Args {
			collect(a, levels+1)
		}
	}
	collect(t, 0)
	return above
}

// depthsOf returns the depth of each variable's type when a substitution is applied to it, and whether no variable reaches itself; if one does, the depths mean nothing. A variable is done when those in its element are: one after the other, and not by recursion, as variables can reach each other over as many steps as there are variables.
func depthsOf(s []api.Type) (depths []int, finite bool) {
	type place struct{ element, above int }
	places := make([][]place, len(s))
	missing := make([]int, len(s))
	depths = make([]int, len(s))
	var done []int
	for i, t := range s {
		variables := variablesOf(t)
		for v, above := range variables {
			places[v] = append(places[v], place{i, above})
		}
		missing[i], depths[i] = len(variables), depthOf(t)
		if missing[i] == 0 {
			done = append(done, i)
		}
	}
	for next := 0; next < len(done); next++ {
		v := done[next]
		for _, p := range places[v] {
			depths[p.element] = max(depths[p.element], p.above+depths[v])
			missing[p.element]--
			if missing[p.element] == 0 {
				done = append(done, p.element)
			}
		}
	}
	return depths, len(done) == len(s)
}

// application returns the function that applies a well-formed substitution to types over it.
func application(s []api.Type) func(api.Type) api.Type {
	elements := slices.Clone(s)
	var apply func(t api.Type) api.Type
	element := func(t api.Type) (api.Type, bool) {
		if t.Kind != api.TyVar || isUnsolved(elements[t.Id]) {
			return api.Type{}, false
		}
		return apply(endOf(elements, t)), true
	}
	apply = func(t api.Type) api.Type { return mapped(t, element) }
	return apply
}

// endOf returns the type at the end of a chain of solved variables. It shortens the chain in the elements, which go on meaning the same, so that a long one is not followed again and again.
func endOf(elements []api.Type, t api.Type) api.Type {
	for t.Kind == api.TyVar && !isUnsolved(elements[t.Id]) {
		next := elements[t.Id]
		if next.Kind == api.TyVar && !isUnsolved(elements[next.Id]) {
			elements[t.Id] = elements[next.Id]
		}
		t = elements[t.Id]
	}
	return t
}
