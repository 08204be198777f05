package matching

import "leasehold/api"

// lazy is a type with types for its generic parameters, which are replaced only where a pattern looks. unify.Subst would replace them everywhere, and with each data type that contains another one twice, the result can become twice as long.
type lazy struct {
	api.Type
	params []lazy
}

// inside returns the types inside a type that has types for its generic parameters.
func inside(params []lazy, types []api.Type) []lazy {
	return mapped(types, func(t api.Type) lazy {
		if t.Kind == api.TyParam && t.Id >= 0 && t.Id < len(params) {
			return params[t.Id]
		}
		return lazy{t, params}
	})
}

// variants returns the variants of a data type; nothing for a type that is none.
func (t lazy) variants(d []api.Data) []api.Variant {
	if t.Kind != api.TyData || t.Id < 0 || t.Id >= len(d) || len(t.Args) != d[t.Id].Params {
		return nil
	}
	return d[t.Id].Variants
}

// fields returns the types of the fields that a variant of a data type has.
func (t lazy) fields(v api.Variant) []lazy {
	return inside(inside(t.params, t.Args), v.Fields)
}
