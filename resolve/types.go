package resolve

import (
	"slices"

	"leasehold/api"
)

// scope is where the names in a declaration are looked up: in a module of a program, after its generic parameters.
type scope struct {
	program *api.Program
	module  int
	params  []string
}

// denoted returns the type that an expression denotes.
func (s *scope) denoted(e api.TypeExpr) api.Type {
	t, args := s.named(e)
	refuseIf(len(e.Args) != args, api.ErrType, e.Offset)
	for _, a := range e.Args {
		arg := s.denoted(a)
		refuseIf(!isStored(arg) && !(t.Kind == api.TyShared && arg.Kind == api.TyArena), api.ErrType, a.Offset)
		t.Args = append(t.Args, arg)
	}
	refuseIf(depth(t) > api.MaxDepth, api.ErrLimit, e.Offset)
	return t
}

// named returns what the name of an expression denotes, still without arguments, and how many of them it has to have.
func (s *scope) named(e api.TypeExpr) (t api.Type, args int) {
	if kind, args := builtIn(e.Name); kind != 0 {
		return api.Type{Kind: kind}, args
	}
	if i := slices.Index(s.params, e.Name); i >= 0 {
		return api.Type{Kind: api.TyParam, Id: i}, 0
	}
	i := Data(*s.program, s.module, e.Name)
	refuseIf(i < 0, api.ErrName, e.Offset)
	return api.Type{Kind: api.TyData, Id: i}, s.program.Datas[i].Params
}

// builtIn returns the kind of types that a name has in all modules, and the number of their arguments; 0 if it has none.
func builtIn(name string) (kind, args int) {
	switch name {
	case "Int":
		return api.TyInt, 0
	case "Arena":
		return api.TyArena, 0
	case "Box":
		return api.TyBox, 1
	case "Chan":
		return api.TyChan, 1
	case "&":
		return api.TyShared, 1
	case "&!":
		return api.TyExcl, 1
	}
	return 0, 0
}

// stored returns the type that an expression denotes where only a stored type can stand.
func (s *scope) stored(e api.TypeExpr) api.Type {
	t := s.denoted(e)
	refuseIf(!isStored(t), api.ErrType, e.Offset)
	return t
}

// bounds returns the bounds of the generic parameters.
func (s *scope) bounds(l []api.BoundDef) []api.Bound {
	var bounds []api.Bound
	for _, b := range l {
		param, trait := slices.Index(s.params, b.Param), traitIn(*s.program, s.module, b.Trait)
		refuseIf(param < 0 || trait < 0, api.ErrName, b.Offset)
		bounds = append(bounds, api.Bound{Param: param, Trait: trait})
	}
	return bounds
}

// isStored reports whether a denoted type is a stored one; its arguments are then stored ones, too.
func isStored(t api.Type) bool {
	switch t.Kind {
	case api.TyArena, api.TyShared, api.TyExcl:
		return false
	}
	return true
}

func depth(t api.Type) int {
	deepest := 0
	for _, a := range t.Args {
		deepest = max(deepest, depth(a))
	}
	return 1 + deepest
}

func sameType(a, b api.Type) bool {
	return a.Kind == b.Kind && a.Id == b.Id && slices.EqualFunc(a.Args, b.Args, sameType)
}
