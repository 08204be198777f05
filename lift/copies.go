package lift

import (
	"slices"

	"leasehold/api"
)

// each returns a new list of what a function makes of the elements of a list.
func each[T any](list []T, changed func(T) T) []T {
	if list == nil {
		return nil
	}
	made := make([]T, 0, len(list))
	for _, x := range list {
		made = append(made, changed(x))
	}
	return made
}

// copiedType returns a type that shares no memory with another one, and shows all names in it to a function.
func copiedType(t api.TypeExpr, see func(name string)) api.TypeExpr {
	see(t.Name)
	t.Args = each(t.Args, func(a api.TypeExpr) api.TypeExpr { return copiedType(a, see) })
	return t
}

func copiedField(t api.TypeExpr) api.TypeExpr { return copiedType(t, func(string) {}) }

func copiedVariant(v api.VariantDef) api.VariantDef {
	v.Fields = each(v.Fields, copiedField)
	return v
}

func copiedData(d api.DataDef) api.DataDef {
	d.Params, d.Variants = slices.Clone(d.Params), each(d.Variants, copiedVariant)
	return d
}

func copiedImpl(i api.ImplDef) api.ImplDef {
	i.Params, i.Bounds, i.Type = slices.Clone(i.Params), slices.Clone(i.Bounds), copiedField(i.Type)
	return i
}
