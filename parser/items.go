package parser

import "leasehold/api"

func (r *reader) module() api.Module {
	var m api.Module
	r.expect("module")
	m.Name = r.name()
	r.expect(";")
	for r.accept("use") {
		m.Uses = append(m.Uses, r.name())
		r.expect(";")
	}
	for !r.done() {
		r.item(&m)
	}
	return m
}

// item reads an item by its first word; the functions for what follows are given the offset at which the item begins.
func (r *reader) item(m *api.Module) {
	offset := r.offset()
	switch r.expect("data", "trait", "impl", "fn") {
	case "data":
		m.Datas = append(m.Datas, r.data(offset))
	case "trait":
		m.Traits = append(m.Traits, r.trait(offset))
	case "impl":
		m.Impls = append(m.Impls, r.implementation(offset))
	case "fn":
		m.Funcs = append(m.Funcs, r.function(offset))
	}
}

func (r *reader) data(offset int) api.DataDef {
	d := api.DataDef{Offset: offset}
	d.Name = r.name()
	d.Params = r.params()
	r.expect("{")
	d.Variants = list(r, r.variant)
	r.expect("}")
	if r.accept("drop") {
		d.Drop = r.dropAction()
	}
	r.expect(";")
	return d
}

func (r *reader) dropAction() int {
	if r.accept("panic") {
		return -1
	}
	return r.number()
}

func (r *reader) variant() api.VariantDef {
	v := api.VariantDef{Offset: r.offset()}
	v.Name = r.name()
	v.Fields = optionalList(r, "(", r.typeExpr, ")")
	return v
}

func (r *reader) trait(offset int) api.TraitDef {
	t := api.TraitDef{Offset: offset}
	t.Name = r.name()
	r.expect(";")
	return t
}

func (r *reader) implementation(offset int) api.ImplDef {
	i := api.ImplDef{Offset: offset}
	i.Params = r.params()
	i.Trait = r.name()
	r.expect("for")
	i.Type = r.typeExpr()
	i.Bounds = r.bounds()
	r.expect("=")
	i.Func = r.name()
	r.expect(";")
	return i
}

func (r *reader) function(offset int) api.FuncDef {
	f := api.FuncDef{Offset: offset}
	f.Name = r.name()
	f.Params = r.params()
	r.signature(&f)
	f.Bounds = r.bounds()
	f.Body = r.block()
	return f
}

func (r *reader) localFunction(offset int) api.FuncDef {
	f := api.FuncDef{Offset: offset}
	f.Name = r.name()
	f.Captures = possiblyEmptyList(r, "[", r.capture, "]")
	r.signature(&f)
	f.Body = r.block()
	return f
}

func (r *reader) params() []string { return optionalList(r, "<", r.name, ">") }

func (r *reader) bounds() []api.BoundDef {
	if !r.accept("where") {
		return nil
	}
	return list(r, r.bound)
}

func (r *reader) bound() api.BoundDef {
	b := api.BoundDef{Offset: r.offset()}
	b.Param = r.name()
	r.expect(":")
	b.Trait = r.name()
	return b
}

// signature reads the arguments and the result of a function.
func (r *reader) signature(f *api.FuncDef) {
	f.Args = possiblyEmptyList(r, "(", r.arg, ")")
	r.expect("->")
	f.Result = r.typeExpr()
}

func (r *reader) arg() api.ArgDef {
	a := api.ArgDef{Offset: r.offset()}
	a.Name = r.name()
	r.expect(":")
	a.Type = r.typeExpr()
	return a
}

func (r *reader) capture() api.ArgDef {
	offset := r.offset()
	kind := r.captureKind()
	c := r.arg()
	c.Capture, c.Offset = kind, offset
	return c
}

func (r *reader) captureKind() int {
	switch r.expect("move", "&", "&!") {
	case "&":
		return api.CaptureShared
	case "&!":
		return api.CaptureExcl
	}
	return api.CaptureMove
}

func (r *reader) typeExpr() api.TypeExpr {
	t := api.TypeExpr{Name: r.word(), Offset: r.offset()}
	switch {
	case r.accept("Int", "Arena"):
	case r.accept("Box", "Chan"):
		r.expect("<")
		t.Args = []api.TypeExpr{r.typeExpr()}
		r.expect(">")
	case r.accept("&", "&!"):
		t.Args = []api.TypeExpr{r.typeExpr()}
	default:
		t.Name = r.name()
		t.Args = optionalList(r, "<", r.typeExpr, ">")
	}
	return t
}
