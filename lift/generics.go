package lift

import (
	"slices"

	"leasehold/api"
)

// generics are the generic parameters of a function of the module, and their bounds, with the places at which each name stands in these lists.
type generics struct {
	params             []string
	bounds             []api.BoundDef
	inParams, inBounds map[string][]int
}

func newGenerics(params []string, bounds []api.BoundDef) *generics {
	g := &generics{params, bounds, map[string][]int{}, map[string][]int{}}
	for i, name := range params {
		g.inParams[name] = append(g.inParams[name], i)
	}
	for i, b := range bounds {
		g.inBounds[b.Param] = append(g.inBounds[b.Param], i)
	}
	return g
}

func (g *generics) has(name string) bool { return len(g.inParams[name]) > 0 }

// of returns the parameters with some names, and the bounds of these. What a local function mentions is also mentioned by the functions around it: so they are those that its outer function has.
func (g *generics) of(names map[string]bool) ([]string, []api.BoundDef) {
	return picked(g.params, g.inParams, names), picked(g.bounds, g.inBounds, names)
}

// picked returns the elements of a list that stand at the places of some names, in the order of the list.
func picked[T any](list []T, places map[string][]int, names map[string]bool) []T {
	var at []int
	for name := range names {
		at = append(at, places[name]...)
	}
	slices.Sort(at)
	var elements []T
	for _, i := range at {
		elements = append(elements, list[i])
	}
	return elements
}
