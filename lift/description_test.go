package lift

import (
	"reflect"
	"slices"
	"strconv"

	"leasehold/api"
)

// This file describes lifting a second time, by the words of the chapter: it lists all functions of a module with the ways to them, and looks in this list for what is visible, and for numbers.

// way leads to a statement or a block: by turns, the number of a statement in its block, and what it has in it (then, else, the body of an arm, or that of a local function). It begins with the number of a function of the module.
type way []string

func (w way) to(steps ...string) way { return append(slices.Clone(w), steps...) }

// place is a function of a module, or a local one, with the outer function (nil for one of the module) and the way to it. A local function stands in the statement to which the way leads.
type place struct {
	f     api.FuncDef
	outer *place
	way   way
}

// inside calls a function for each block in a statement, with the way to it.
func inside(s api.Stmt, at way, visit func(block []api.Stmt, at way)) {
	visit(s.Then, at.to("then"))
	visit(s.Else, at.to("else"))
	for i, a := range s.Arms {
		visit(a.Body, at.to("arm"+strconv.Itoa(i)))
	}
}

// places lists the functions of a module and the local ones in the order in which they begin.
func places(m api.Module) []*place {
	var list []*place
	var block func(l []api.Stmt, outer *place, at way)
	block = func(l []api.Stmt, outer *place, at way) {
		for i, s := range l {
			here := at.to(strconv.Itoa(i))
			inside(s, here, func(b []api.Stmt, w way) { block(b, outer, w) })
			for _, f := range s.Func {
				p := &place{f, outer, here}
				list = append(list, p)
				block(f.Body, p, here.to("body"))
			}
		}
	}
	for i, f := range m.Funcs {
		p := &place{f, nil, way{strconv.Itoa(i)}}
		list = append(list, p)
		block(f.Body, p, p.way.to("body"))
	}
	return list
}

// sees says whether a local function is visible in the statement to which a way leads.
func (p *place) sees(at way) bool {
	last := len(p.way) - 1
	if p.outer == nil || len(at) <= last || !slices.Equal(at[:last], p.way[:last]) {
		return false
	}
	own, _ := strconv.Atoi(p.way[last])
	other, _ := strconv.Atoi(at[last])
	return other > own && !slices.Contains(at[last:], "body")
}

// meant returns the local function that a name means in a statement, or nil.
func meant(list []*place, name string, at way) *place {
	var last *place
	for _, p := range list {
		if p.f.Name == name && p.sees(at) {
			last = p
		}
	}
	return last
}

// number counts the local functions before one that have the same outer function.
func (p *place) number(list []*place) int {
	n := 0
	for _, other := range list[:slices.Index(list, p)] {
		if other.outer == p.outer {
			n++
		}
	}
	return n
}

func (p *place) liftedName(list []*place) string {
	if p.outer == nil {
		return p.f.Name
	}
	return p.outer.liftedName(list) + "." + strconv.Itoa(p.number(list)) + "." + p.f.Name
}

// mentions says whether a function mentions a parameter.
func mentions(f api.FuncDef, param string) bool {
	found := false
	for _, part := range []any{&f.Captures, &f.Args, &f.Result, &f.Body} {
		eachPart(reflect.ValueOf(part).Elem(), func(v reflect.Value) {
			t, ok := v.Interface().(api.TypeExpr)
			found = found || ok && t.Name == param
		})
	}
	return found
}

// generic returns the Params and Bounds of a lifted function.
func (p *place) generic() (params []string, bounds []api.BoundDef) {
	if p.outer == nil {
		return p.f.Params, p.f.Bounds
	}
	outer, outerBounds := p.outer.generic()
	for _, name := range outer {
		if mentions(p.f, name) {
			params = append(params, name)
		}
	}
	for _, b := range outerBounds {
		if slices.Contains(params, b.Param) {
			bounds = append(bounds, b)
		}
	}
	return params, bounds
}

func (p *place) lifted(list []*place) api.FuncDef {
	f := p.f
	f.Name, f.Captures, f.Args = p.liftedName(list), nil, nil
	f.Params, f.Bounds = p.generic()
	for _, c := range p.f.Captures {
		a := api.ArgDef{Name: c.Name, Offset: c.Offset, Type: c.Type}
		switch c.Capture {
		case api.CaptureShared:
			a.Type = api.TypeExpr{Name: "&", Offset: c.Type.Offset, Args: []api.TypeExpr{c.Type}}
		case api.CaptureExcl:
			a.Type = api.TypeExpr{Name: "&!", Offset: c.Type.Offset, Args: []api.TypeExpr{c.Type}}
		}
		f.Args = append(f.Args, a)
	}
	f.Args = append(f.Args, p.f.Args...)
	f.Body = liftedBlock(list, f.Body, p.way.to("body"))
	return f
}

func liftedBlock(list []*place, block []api.Stmt, at way) []api.Stmt {
	var lifted []api.Stmt
	for i, s := range block {
		if s.Kind != api.StFunc {
			lifted = append(lifted, liftedStatement(list, s, at.to(strconv.Itoa(i)))...)
		}
	}
	return lifted
}

// liftedStatement returns a statement, and before it those for captures.
func liftedStatement(list []*place, s api.Stmt, at way) []api.Stmt {
	var before []api.Stmt
	isCall := (s.Kind == api.StLet || s.Kind == api.StSet) && s.Expr.Kind == api.ExCall
	for _, call := range []struct {
		is    bool
		name  *string
		names *[]string
	}{{isCall, &s.Expr.Name, &s.Expr.Names}, {s.Kind == api.StSpawn, &s.Name, &s.Names}} {
		p := meant(list, *call.name, at)
		if !call.is || p == nil {
			continue
		}
		var passed []string
		for _, c := range p.f.Captures {
			name, kind := p.f.Name+"."+c.Name, api.ExShare
			switch c.Capture {
			case api.CaptureShared:
			case api.CaptureExcl:
				kind = api.ExLend
			default:
				passed = append(passed, c.Name)
				continue
			}
			passed = append(passed, name)
			before = append(before, api.Stmt{Kind: api.StLet, Name: name, Offset: s.Offset, Expr: api.Expr{Kind: kind, Names: []string{c.Name}, Offset: s.Offset}})
		}
		*call.name, *call.names = p.liftedName(list), append(passed, *call.names...)
	}
	s.Arms = slices.Clone(s.Arms)
	inside(s, at, func(b []api.Stmt, w way) {
		b = liftedBlock(list, b, w)
		switch last := w[len(w)-1]; last {
		case "then":
			s.Then = b
		case "else":
			s.Else = b
		default:
			i, _ := strconv.Atoi(last[len("arm"):])
			s.Arms[i].Body = b
		}
	})
	return append(before, s)
}

// describeLift returns the lifted module of one that has no errors.
func describeLift(m api.Module) api.Module {
	list := places(m)
	m = clone(m)
	m.Funcs = nil
	for _, local := range []bool{false, true} {
		for _, p := range list {
			if local == (p.outer != nil) {
				m.Funcs = append(m.Funcs, p.lifted(list))
			}
		}
	}
	return m
}

// complaint is an error of a module, and the sentence of the chapter that it breaks.
type complaint struct {
	rule   string
	err    api.Errno
	offset int
}

// complaints lists all errors of a module in their order. All but the first one need not be right.
func complaints(m api.Module) []complaint {
	var list []complaint
	add := func(wrong bool, rule string, err api.Errno, offset int) {
		if wrong {
			list = append(list, complaint{rule, err, offset})
		}
	}
	var block func(l []api.Stmt)
	block = func(l []api.Stmt) {
		for _, s := range l {
			local := s.Kind == api.StFunc
			add(local && len(s.Func) == 0, "no function", api.ErrArg, s.Offset)
			add(local && len(s.Func) > 1, "two functions", api.ErrArg, s.Offset)
			add(local && len(s.Then) > 0, "then", api.ErrArg, s.Offset)
			add(local && len(s.Else) > 0, "else", api.ErrArg, s.Offset)
			add(local && len(s.Arms) > 0, "arms", api.ErrArg, s.Offset)
			add(!local && len(s.Func) > 0, "not local", api.ErrArg, s.Offset)
			for _, f := range s.Func {
				both := slices.Concat(f.Captures, f.Args)
				for i, a := range both {
					twice := slices.ContainsFunc(both[:i], func(b api.ArgDef) bool { return b.Name == a.Name })
					add(twice, "twice", api.ErrTwice, a.Offset)
				}
				add(len(both) > 8, "more than 8", api.ErrLimit, f.Offset)
				block(f.Body)
			}
			inside(s, nil, func(b []api.Stmt, _ way) { block(b) })
		}
	}
	for _, f := range m.Funcs {
		add(len(f.Captures) > 0, "captures", api.ErrArg, f.Offset)
		block(f.Body)
	}
	return list
}
