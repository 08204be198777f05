package lift

import (
	"maps"
	"slices"
	"strconv"

	"leasehold/api"
)

// lifter lifts the functions of a module that has no errors. Lifted are those that were local ones, in the order in which they begin.
type lifter struct{ lifted []api.FuncDef }

// body is the body of a function, while it is lifted: the generic parameters of the function of the module in which it stands, the lifted name of its own function, the number of local functions so far, those that are visible at the present statement (nil for a name that means none any more), and the parameters that were mentioned.
type body struct {
	lifter    *lifter
	generics  *generics
	name      string
	locals    int
	visible   map[string]*callee
	mentioned map[string]bool
}

func (l *lifter) newBody(g *generics, name string) *body {
	return &body{lifter: l, generics: g, name: name, visible: map[string]*callee{}, mentioned: map[string]bool{}}
}

func (l *lifter) module(m api.Module) api.Module {
	functions := each(m.Funcs, l.function)
	return api.Module{
		Name:   m.Name,
		Uses:   slices.Clone(m.Uses),
		Datas:  each(m.Datas, copiedData),
		Traits: slices.Clone(m.Traits),
		Impls:  each(m.Impls, copiedImpl),
		Funcs:  append(functions, l.lifted...),
	}
}

// function lifts a function of the module.
func (l *lifter) function(f api.FuncDef) api.FuncDef {
	b := l.newBody(newGenerics(f.Params, f.Bounds), f.Name)
	return api.FuncDef{
		Name:   f.Name,
		Params: slices.Clone(f.Params),
		Bounds: slices.Clone(f.Bounds),
		Args:   each(f.Args, b.arg),
		Result: b.typeExpr(f.Result),
		Body:   b.block(f.Body),
		Offset: f.Offset,
	}
}

// local lifts a local function of a body. Its place among the lifted functions is before those that are local in it.
func (l *lifter) local(outer *body, f *api.FuncDef) *callee {
	b := l.newBody(outer.generics, outer.name+"."+strconv.Itoa(outer.locals)+"."+f.Name)
	outer.locals++
	place := len(l.lifted)
	l.lifted = append(l.lifted, api.FuncDef{})
	lifted := api.FuncDef{
		Name:   b.name,
		Args:   append(each(f.Captures, b.capture), each(f.Args, b.arg)...),
		Result: b.typeExpr(f.Result),
		Body:   b.block(f.Body),
		Offset: f.Offset,
	}
	lifted.Params, lifted.Bounds = b.generics.of(b.mentioned)
	l.lifted[place] = lifted
	maps.Copy(outer.mentioned, b.mentioned)
	return newCallee(b.name, f)
}

// block lifts a list of statements. What its local functions change in the map of visible ones is copied before, and put back at the end: a copy of the whole map for each block could be much larger than the module.
func (b *body) block(list []api.Stmt) []api.Stmt {
	if list == nil {
		return nil
	}
	lifted := make([]api.Stmt, 0, len(list))
	outside := map[string]*callee{}
	for i := range list {
		s := b.statement(list[i])
		if s.Kind == api.StFunc {
			b.declare(&list[i].Func[0], outside)
			continue
		}
		lifted = append(lifted, b.lendFor(&s)...)
		lifted = append(lifted, s)
	}
	maps.Copy(b.visible, outside)
	return lifted
}

// declare lifts a local function, and makes it visible up to the end of the present block.
func (b *body) declare(f *api.FuncDef, outside map[string]*callee) {
	if _, ok := outside[f.Name]; !ok {
		outside[f.Name] = b.visible[f.Name]
	}
	b.visible[f.Name] = b.lifter.local(b, f)
}

// statement copies a statement, and lifts the blocks in it.
func (b *body) statement(s api.Stmt) api.Stmt {
	s.Names, s.Expr.Names = slices.Clone(s.Names), slices.Clone(s.Expr.Names)
	s.Type, s.Expr.Type = each(s.Type, b.typeExpr), each(s.Expr.Type, b.typeExpr)
	s.Then, s.Else = b.block(s.Then), b.block(s.Else)
	s.Arms = each(s.Arms, b.arm)
	s.Func = nil
	return s
}

func (b *body) arm(a api.ArmDef) api.ArmDef {
	a.Names, a.Body = slices.Clone(a.Names), b.block(a.Body)
	return a
}

// lendFor makes a call of a visible local function in a statement one of the lifted function, and returns the statements that lend it what it captures.
func (b *body) lendFor(s *api.Stmt) []api.Stmt {
	name, names := callIn(s)
	if name == nil || b.visible[*name] == nil {
		return nil
	}
	called := b.visible[*name]
	*name, *names = called.name, slices.Concat(called.passed, *names)
	return called.loans(s.Offset)
}

func (b *body) arg(a api.ArgDef) api.ArgDef {
	a.Type = b.typeExpr(a.Type)
	return a
}

// capture returns the argument that a capture becomes.
func (b *body) capture(c api.ArgDef) api.ArgDef {
	t := b.typeExpr(c.Type)
	if symbol, _ := reference(c.Capture); symbol != "" {
		t = api.TypeExpr{Name: symbol, Args: []api.TypeExpr{t}, Offset: c.Type.Offset}
	}
	return api.ArgDef{Name: c.Name, Type: t, Offset: c.Offset}
}

// typeExpr copies a type in the body, and keeps the parameters that it mentions.
func (b *body) typeExpr(t api.TypeExpr) api.TypeExpr {
	return copiedType(t, func(name string) {
		if b.generics.has(name) {
			b.mentioned[name] = true
		}
	})
}
