package traits

import (
	"slices"

	"leasehold/api"
	"leasehold/unify"
)

// element returns the element of a list with an index, and whether there is one.
func element[E any](l []E, index int) (e E, ok bool) {
	if index < 0 || index >= len(l) {
		return e, false
	}
	return l[index], true
}

// has reports whether a predicate holds for a part of a type.
func has(t api.Type, holds func(api.Type) bool) bool {
	inside := func(a api.Type) bool { return has(a, holds) }
	return holds(t) || slices.ContainsFunc(t.Args, inside)
}

// parts returns the number of parts of a type, the type itself included.
func parts(t api.Type) int {
	n := 1
	for _, a := range t.Args {
		n += parts(a)
	}
	return n
}

func isStored(t api.Type) bool {
	switch t.Kind {
	case api.TyInt, api.TyData, api.TyBox, api.TyChan, api.TyParam:
		return true
	}
	return false
}

func sameHead(a, b api.Type) bool { return a.Kind == b.Kind && a.Id == b.Id }

// becomes reports whether a type becomes another one when its parameters are replaced as unify.Subst does it. It does not build what Subst returns, which could be far greater than the other type.
func becomes(t api.Type, types []api.Type, other api.Type) bool {
	if t.Kind == api.TyParam {
		if replaced, ok := element(types, t.Id); ok {
			return same(replaced, other)
		}
	}
	inside := func(a, b api.Type) bool { return becomes(a, types, b) }
	return sameHead(t, other) && slices.EqualFunc(t.Args, other.Args, inside)
}

func same(a, b api.Type) bool { return becomes(a, nil, b) }

// agree reports whether two types are equal wherever neither of them has a parameter. Most pairs of types are not, and to unify them takes far longer.
func agree(a, b api.Type) bool {
	if a.Kind == api.TyParam || b.Kind == api.TyParam {
		return true
	}
	return sameHead(a, b) && slices.EqualFunc(a.Args, b.Args, agree)
}

// meet reports whether two types, each with parameters of its own, become the same type, of a depth that is allowed, with some types for their parameters.
func meet(a, b api.Type) bool {
	var variables []api.Type
	for i := range 2 * api.MaxParams {
		variables = append(variables, api.Type{Kind: api.TyVar, Id: i})
	}
	first := unify.Subst(variables[:api.MaxParams], a)
	second := unify.Subst(variables[api.MaxParams:], b)
	_, err := unify.Unify(make([]api.Type, len(variables)), first, second)
	return err == api.OK
}
