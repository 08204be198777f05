package resolve

import (
	"slices"

	"leasehold/api"
)

// builder has the tables of the modules that were examined, and, as the last one, of the one that is being examined.
type builder struct{ program api.Program }

// current returns the index of the module that is being examined.
func (b *builder) current() int { return len(b.program.Modules) - 1 }

func (b *builder) scope(params []string) *scope { return &scope{&b.program, b.current(), params} }

// module examines a module, and appends what it declares to the tables.
func (b *builder) module(m api.Module) {
	b.uses(m)
	datas, funcs := len(b.program.Datas), len(b.program.Funcs)
	b.declare(m)
	for i, d := range m.Datas {
		b.program.Datas[datas+i].Variants = b.variants(d)
	}
	b.refuseCycles(m.Datas, datas)
	for i, f := range m.Funcs {
		b.signature(&b.program.Funcs[funcs+i], f)
	}
	for _, i := range m.Impls {
		b.program.Impls = append(b.program.Impls, b.implementation(i))
	}
}

// uses finds the modules that a module uses.
func (b *builder) uses(m api.Module) {
	p := &b.program
	earlier := p.Modules
	refuseIf(len(earlier) >= api.MaxModules, api.ErrLimit, 0)
	refuseIf(slices.Contains(earlier, m.Name), api.ErrTwice, 0)
	var used []int
	for _, name := range m.Uses {
		i := slices.Index(earlier, name)
		refuseIf(i < 0, api.ErrName, 0)
		refuseIf(slices.Contains(used, i), api.ErrTwice, 0)
		used = append(used, i)
	}
	p.Modules, p.Uses = append(p.Modules, m.Name), append(p.Uses, used)
	b.refuseClashes()
}

// refuseClashes ends the examination if two of the used modules declare the same name. Nothing of the module itself is visible yet, and each used module has a name only once.
func (b *builder) refuseClashes() {
	p, module := b.program, b.current()
	for i, d := range p.Datas {
		refuseIf(sees(p, module, d.Module) && Data(p, module, d.Name) != i, api.ErrTwice, 0)
	}
	for i, trait := range p.Traits {
		refuseIf(sees(p, module, p.Homes[i]) && traitIn(p, module, trait) != i, api.ErrTwice, 0)
	}
	for i, f := range p.Funcs {
		refuseIf(sees(p, module, f.Module) && Func(p, module, f.Name) != i, api.ErrTwice, 0)
	}
}

// declare makes the names of data types, traits and functions visible, before anything is said of them in which these names occur.
func (b *builder) declare(m api.Module) {
	p, module := &b.program, b.current()
	for _, d := range m.Datas {
		refuseIf(len(p.Datas) >= api.MaxDatas, api.ErrLimit, d.Offset)
		refuseIf(Data(*p, module, d.Name) >= 0, api.ErrTwice, d.Offset)
		p.Datas = append(p.Datas, api.Data{Name: d.Name, Module: module, Params: len(d.Params), Drop: d.Drop})
	}
	for _, t := range m.Traits {
		refuseIf(len(p.Traits) >= api.MaxDatas, api.ErrLimit, t.Offset)
		refuseIf(traitIn(*p, module, t.Name) >= 0, api.ErrTwice, t.Offset)
		p.Traits, p.Homes = append(p.Traits, t.Name), append(p.Homes, module)
	}
	for _, f := range m.Funcs {
		refuseIf(len(p.Funcs) >= api.MaxFuncs, api.ErrLimit, f.Offset)
		refuseIf(Func(*p, module, f.Name) >= 0, api.ErrTwice, f.Offset)
		p.Funcs = append(p.Funcs, api.Func{Name: f.Name, Module: module, Params: len(f.Params), Arity: len(f.Args)})
	}
}

// variants returns the variants of a data type, of which all else is examined, too.
func (b *builder) variants(d api.DataDef) []api.Variant {
	refuseParams(d.Params, d.Offset)
	refuseIf(len(d.Variants) > api.MaxVariants || len(d.Variants) == 0, api.ErrLimit, d.Offset)
	refuseIf(d.Drop < -1 || d.Drop > api.MaxNumber, api.ErrArg, d.Offset)
	s := b.scope(d.Params)
	var variants []api.Variant
	for _, v := range d.Variants {
		twice := find(variants, func(_ int, earlier api.Variant) bool { return earlier.Name == v.Name }) >= 0
		refuseIf(twice, api.ErrTwice, v.Offset)
		refuseIf(len(v.Fields) > api.MaxFields, api.ErrLimit, v.Offset)
		var fields []api.Type
		for _, e := range v.Fields {
			fields = append(fields, s.stored(e))
		}
		variants = append(variants, api.Variant{Name: v.Name, Fields: fields})
	}
	return variants
}

// refuseParams ends the examination of a declaration whose generic parameters are too many, or not different.
func refuseParams(params []string, offset int) {
	refuseIf(len(params) > api.MaxParams, api.ErrLimit, offset)
	for i, name := range params {
		refuseIf(slices.Contains(params[:i], name), api.ErrTwice, offset)
	}
}

// signature adds to a function all that is known of it without its body.
func (b *builder) signature(function *api.Func, f api.FuncDef) {
	refuseIf(len(f.Captures) > 0, api.ErrArg, f.Offset)
	refuseParams(f.Params, f.Offset)
	refuseIf(len(f.Args) > api.MaxFields, api.ErrLimit, f.Offset)
	s := b.scope(f.Params)
	function.Bounds = s.bounds(f.Bounds)
	for i, a := range f.Args {
		twice := find(f.Args[:i], func(_ int, earlier api.ArgDef) bool { return earlier.Name == a.Name }) >= 0
		refuseIf(twice, api.ErrTwice, a.Offset)
		function.Locals = append(function.Locals, s.denoted(a.Type))
	}
	function.Result = s.denoted(f.Result)
	refuseIf(function.Result.Kind == api.TyArena, api.ErrType, f.Result.Offset)
}

func (b *builder) implementation(i api.ImplDef) api.Impl {
	p, module := b.program, b.current()
	trait := traitIn(p, module, i.Trait)
	refuseIf(trait < 0, api.ErrName, i.Offset)
	refuseParams(i.Params, i.Offset)
	s := b.scope(i.Params)
	bounds := s.bounds(i.Bounds)
	t := s.stored(i.Type)
	function := Func(p, module, i.Func)
	refuseIf(function < 0, api.ErrName, i.Offset)
	impl := api.Impl{Trait: trait, Module: module, Params: len(i.Params), Bounds: bounds, Type: t, Func: function}
	refuseIf(!implements(p.Funcs[function], impl), api.ErrType, i.Offset)
	return impl
}

// implements reports whether a function can be the method of an implementation.
func implements(f api.Func, i api.Impl) bool {
	args := []api.Type{{Kind: api.TyShared, Args: []api.Type{i.Type}}}
	lacks := func(b api.Bound) bool { return !slices.Contains(i.Bounds, b) }
	return f.Params == i.Params && slices.EqualFunc(f.Locals, args, sameType) && f.Result.Kind == api.TyInt && !slices.ContainsFunc(f.Bounds, lacks)
}

// main returns the index of the function with which the program begins, or -1.
func (b *builder) main() int {
	return find(b.program.Funcs, func(_ int, f api.Func) bool {
		return f.Module == b.current() && f.Name == "main" && f.Params == 0 && f.Arity == 0 && f.Result.Kind == api.TyInt
	})
}
