package traits

import (
	"slices"

	"leasehold/api"
	"leasehold/unify"
)

// isGeneral reports whether the Type of an implementation consists of what stored types consist of, in whatever program. (It may be too deep: then it cannot be unified.)
func isGeneral(m api.Impl) bool {
	wrong := func(t api.Type) bool {
		return !isStored(t) || t.Kind == api.TyParam && (t.Id < 0 || t.Id >= m.Params || len(t.Args) > 0)
	}
	return m.Params >= 0 && m.Params <= api.MaxParams && !has(m.Type, wrong)
}

func isWellFormed(p *api.Program, m api.Impl) bool {
	_, ok := element(p.Traits, m.Trait)
	return ok && m.Module >= 0 && unify.Valid(*p, m.Params, m.Type) && isStored(m.Type) && usesAll(m) && boundsAreWellFormed(p, m)
}

// usesAll reports whether all parameters of an implementation occur in its Type.
func usesAll(m api.Impl) bool {
	for i := range m.Params {
		isIt := func(t api.Type) bool { return t.Kind == api.TyParam && t.Id == i }
		if !has(m.Type, isIt) {
			return false
		}
	}
	return true
}

func boundsAreWellFormed(p *api.Program, m api.Impl) bool {
	wrong := func(b api.Bound) bool {
		_, ok := element(p.Traits, b.Trait)
		return !ok || b.Param < 0 || b.Param >= m.Params
	}
	return !slices.ContainsFunc(m.Bounds, wrong)
}

// isOrphan reports whether a well-formed implementation is neither in the module of its trait nor in that of its data type.
func isOrphan(p *api.Program, m api.Impl) bool {
	if home, ok := element(p.Homes, m.Trait); ok && home == m.Module {
		return false
	}
	return m.Type.Kind != api.TyData || p.Datas[m.Type.Id].Module != m.Module
}
