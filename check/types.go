package check

import (
	"leasehold/api"
	"leasehold/unify"
)

func integer() api.Type { return api.Type{Kind: api.TyInt} }

func variableType(number int) api.Type { return api.Type{Kind: api.TyVar, Id: number} }

// typeOver returns the type of a Kind with one argument.
func typeOver(kind int, t api.Type) api.Type { return api.Type{Kind: kind, Args: []api.Type{t}} }

// boxed puts a number of boxes around a type.
func boxed(boxes int, t api.Type) api.Type {
	for range boxes {
		t = typeOver(api.TyBox, t)
	}
	return t
}

func isReference(t api.Type) bool {
	return (t.Kind == api.TyShared || t.Kind == api.TyExcl) && len(t.Args) == 1
}

func isExclusive(t api.Type) bool { return isReference(t) && t.Kind == api.TyExcl }

func isStored(t api.Type) bool {
	switch t.Kind {
	case api.TyInt, api.TyData, api.TyBox, api.TyChan, api.TyParam:
		return true
	}
	return false
}

func isOwning(t api.Type) bool {
	switch t.Kind {
	case api.TyData, api.TyBox, api.TyParam, api.TyArena:
		return true
	}
	return false
}

// isLoadable reports whether a type is a reference to what can be copied out of it.
func isLoadable(t api.Type) bool {
	return isReference(t) && (t.Args[0].Kind == api.TyInt || t.Args[0].Kind == api.TyChan)
}

// isData reports whether a type is one of the data types of the program.
func (c *checker) isData(t api.Type) bool {
	return t.Kind == api.TyData && t.Id >= 0 && t.Id < len(c.program.Datas)
}

// dataOf returns a data type, or the one to which a reference refers.
func dataOf(t api.Type) api.Type {
	if isReference(t) {
		return t.Args[0]
	}
	return t
}

// hasVariants reports whether a type is a data type, or a reference to one.
func (c *checker) hasVariants(t api.Type) bool {
	return c.isData(dataOf(t))
}

func (c *checker) variantsOf(data api.Type) []api.Variant { return c.program.Datas[data.Id].Variants }

// hasField reports whether a type is a data type with exactly one variant, and this has a field with a number.
func (c *checker) hasField(t api.Type, number int) bool {
	if !c.isData(t) || len(c.variantsOf(t)) != 1 {
		return false
	}
	return number >= 0 && number < len(c.variantsOf(t)[0].Fields)
}

// fieldsOf returns the types of the fields of a variant of a data type, or of references to them for a reference to it.
func (c *checker) fieldsOf(t api.Type, variant int) []api.Type {
	data := dataOf(t)
	var types []api.Type
	for _, field := range c.variantsOf(data)[variant].Fields {
		field = unify.Subst(data.Args, field)
		if isReference(t) {
			field = typeOver(t.Kind, field)
		}
		types = append(types, field)
	}
	return types
}
