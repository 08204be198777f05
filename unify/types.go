package unify

import (
	"slices"

	"leasehold/api"
)

// mapped returns a type some of whose parts are replaced: those for which the function returns other ones, and true; it is not called for what is inside them. The memory is new as far as that of the other ones is.
func mapped(t api.Type, replaced func(api.Type) (api.Type, bool)) api.Type {
	if other, ok := replaced(t); ok {
		return other
	}
	args := slices.Grow([]api.Type(nil), len(t.Args))
	for _, a := range t.Args {
		args = append(args, mapped(a, replaced))
	}
	return api.Type{Kind: t.Kind, Id: t.Id, Args: args}
}

// copied returns the same type in new memory.
func copied(t api.Type) api.Type {
	return mapped(t, func(api.Type) (api.Type, bool) { return api.Type{}, false })
}

// sameHead reports whether two types are equal but for their Args.
func sameHead(a, b api.Type) bool { return a.Kind == b.Kind && a.Id == b.Id }

func same(a, b api.Type) bool {
	return sameHead(a, b) && slices.EqualFunc(a.Args, b.Args, same)
}

func depthOf(t api.Type) int {
	deepest := 0
	for _, a := range t.Args {
		deepest = max(deepest, depthOf(a))
	}
	return 1 + deepest
}

// isWithin reports whether the depth of a type is at most a number of levels. It does not look at what is deeper.
func isWithin(levels int, t api.Type) bool {
	tooDeep := func(a api.Type) bool { return !isWithin(levels-1, a) }
	return levels > 0 && !slices.ContainsFunc(t.Args, tooDeep)
}

// scope is where types can be well-formed: the data types of a program, and a number of generic parameters.
type scope struct {
	datas  []api.Data
	params int
}

// accepts reports whether a type is well-formed, and its depth at most a number of levels.
func (s *scope) accepts(t api.Type, levels int) bool {
	if levels == 0 {
		return false
	}
	switch t.Kind {
	case api.TyInt, api.TyArena:
		return t.Id == 0 && len(t.Args) == 0
	case api.TyParam:
		return t.Id >= 0 && t.Id < s.params && len(t.Args) == 0
	case api.TyData:
		return t.Id >= 0 && t.Id < len(s.datas) && s.acceptsArgs(t, s.datas[t.Id].Params, levels)
	case api.TyBox, api.TyChan, api.TyShared, api.TyExcl:
		return t.Id == 0 && s.acceptsArgs(t, 1, levels)
	}
	return false
}

// acceptsArgs reports whether a type has a number of Args, each of which is well-formed and can stand there.
func (s *scope) acceptsArgs(t api.Type, number, levels int) bool {
	wrong := func(a api.Type) bool {
		arena := t.Kind == api.TyShared && a.Kind == api.TyArena
		return !isStored(a) && !arena || !s.accepts(a, levels-1)
	}
	return len(t.Args) == number && !slices.ContainsFunc(t.Args, wrong)
}

func isStored(t api.Type) bool {
	switch t.Kind {
	case api.TyInt, api.TyData, api.TyBox, api.TyChan, api.TyParam:
		return true
	}
	return false
}
