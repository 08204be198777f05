package traits

import (
	"math/rand/v2"
	"slices"
	"strings"

	"leasehold/api"
	"leasehold/unify"
)

// maker makes random arguments for the program of the tests.
type maker struct{ *rand.Rand }

func seeded(n uint64) maker { return maker{rand.New(rand.NewPCG(n, 6))} }

func (m maker) one(of ...int) int { return of[m.IntN(len(of))] }

// stored makes a well-formed stored type, of a depth of at most levels.
func (m maker) stored(params, levels int) api.Type {
	kind := m.one(api.TyInt, api.TyParam, api.TyParam, api.TyData, api.TyData, api.TyBox, api.TyBox, api.TyChan)
	t, arity := api.Type{Kind: kind}, 0
	switch kind {
	case api.TyParam:
		if params == 0 {
			return m.stored(params, levels)
		}
		t.Id = m.IntN(params)
	case api.TyData:
		t.Id = m.IntN(3)
		arity = 2 - t.Id
	case api.TyBox, api.TyChan:
		arity = 1
	}
	if levels == 1 && arity > 0 {
		return m.stored(params, levels)
	}
	for range arity {
		t.Args = append(t.Args, m.stored(params, levels-1))
	}
	return t
}

// renumbered gives the parameters of a type the numbers from 0 on, and returns how many there are.
func (m maker) renumbered(t api.Type) (api.Type, int) {
	var used []int
	has(t, func(part api.Type) bool {
		if part.Kind == api.TyParam && !slices.Contains(used, part.Id) {
			used = append(used, part.Id)
		}
		return false
	})
	numbers := make([]api.Type, api.MaxParams)
	for i, n := range m.Perm(len(used)) {
		numbers[used[i]] = api.Type{Kind: api.TyParam, Id: n}
	}
	return unify.Subst(numbers, t), len(used)
}

// bound makes a bound of some parameters.
func (m maker) bound(params int) api.Bound { return api.Bound{Param: m.IntN(params), Trait: m.IntN(3)} }

// impl makes an implementation that is well-formed and no orphan.
func (m maker) impl(params int) api.Impl {
	var x api.Impl
	x.Type, x.Params = m.renumbered(m.stored(params, m.one(1, 2, 2, 2, 3, 4)))
	x.Trait = m.IntN(3)
	x.Module = m.home(x)
	for range m.one(0, 1, 1, 2, 3) * min(x.Params, 1) {
		x.Bounds = append(x.Bounds, m.bound(x.Params))
	}
	return x
}

// home returns a module in which an implementation is no orphan.
func (m maker) home(x api.Impl) int {
	p := program()
	if x.Type.Kind == api.TyData && m.IntN(2) == 0 {
		return p.Datas[x.Type.Id].Module
	}
	return p.Homes[x.Trait]
}

// spoiled changes one part of an implementation.
func (m maker) spoiled(x api.Impl) api.Impl {
	switch m.IntN(7) {
	case 0:
		x.Trait = m.one(-1, 3, 0, 1, 2)
	case 1:
		x.Module = m.one(-1, 0, 1, 2, 3)
	case 2:
		x.Params += m.one(-1, 1)
	case 3:
		x.Bounds = append(slices.Clone(x.Bounds), api.Bound{Param: m.one(-1, 0, x.Params), Trait: m.one(-1, 0, 3)})
	case 4:
		x.Type = m.changed(x.Type)
	case 5:
		x.Type = ty(boxed(max(0, 9-nesting(text(x.Type))-m.IntN(2)), text(x.Type)))
	case 6:
		x.Type = m.stored(4, 3)
	}
	return x
}

// changed returns a type of which a part is replaced by something that is often wrong.
func (m maker) changed(t api.Type) api.Type {
	if len(t.Args) > 0 && m.IntN(3) > 0 {
		c := api.Type{Kind: t.Kind, Id: t.Id, Args: slices.Clone(t.Args)}
		i := m.IntN(len(c.Args))
		c.Args[i] = m.changed(c.Args[i])
		return c
	}
	wrong := strings.Fields("_ K10_0 K-1_0(Int) Arena Shared(Int) Shared(Arena) Excl(P0) v0 v1 Int1 Int(Int) Box Box(Int,Int) Chan2(Int) D3 D-1 D0(Int) D2(P0) P-1 P4 P0(Int) P1(_)")
	if m.IntN(2) == 0 {
		return ty(wrong[m.IntN(len(wrong))])
	}
	return m.stored(4, 2)
}

// program makes a program with at most n implementations; all of them are well-formed, and none is an orphan.
func (m maker) program(n, params int) api.Program {
	p := program()
	for range m.IntN(n + 1) {
		p.Impls = append(p.Impls, m.impl(params))
	}
	return p
}

// coherent makes a coherent program, with at most n implementations.
func (m maker) coherent(n, params int) api.Program {
	p := program()
	for range n {
		longer := p
		longer.Impls = append(slices.Clone(p.Impls), m.impl(params))
		if len(complaints(longer)) == 0 {
			p = longer
		}
	}
	return p
}

// crowded makes a coherent program in which types of some kinds implement the traits, with given numbers of bounds.
func (m maker) crowded(numbers ...int) api.Program {
	p := program("0/0 Int", "1/0 Int", "1/0 D2", "2/1@1 P0 0:0")
	for _, pattern := range []string{"0/1 Box(P0)", "1/1 Box(P0)", "0/1 Chan(P0)", "1/1 Chan(P0)", "0/2 D0(P0,P1)", "1/2 D0(P0,P1)"} {
		x := impl(pattern)
		for range m.one(numbers...) {
			x.Bounds = append(x.Bounds, api.Bound{Param: m.IntN(x.Params), Trait: m.one(0, 0, 1, 1, 2)})
		}
		p.Impls = append(p.Impls, x)
	}
	return p
}

// crowd makes a type of those kinds.
func (m maker) crowd(params, levels int) api.Type {
	if levels == 0 || m.IntN(6) == 0 {
		return m.leaf(params)
	}
	pattern := ty([]string{"Box(P0)", "Chan(P0)", "D0(P0,P1)", "D0(P1,P0)"}[m.IntN(4)])
	return unify.Subst([]api.Type{m.crowd(params, levels-1), m.leaf(params)}, pattern)
}

func (m maker) leaf(params int) api.Type {
	if n := m.IntN(params + 2); n < params {
		return api.Type{Kind: api.TyParam, Id: n}
	}
	return ty([]string{"Int", "Int", "Int", "D2"}[m.IntN(4)])
}

// assumed makes bounds of all parameters.
func (m maker) assumed() []api.Bound {
	var l []api.Bound
	for range m.IntN(8) {
		l = append(l, m.bound(api.MaxParams))
	}
	return l
}

// instance makes a type to which one of the implementations applies, or a part of one, or any other.
func (m maker) instance(p api.Program, params, levels int) api.Type {
	if len(p.Impls) == 0 || levels == 0 || m.IntN(6) == 0 {
		if params > 0 && m.IntN(2) == 0 {
			return api.Type{Kind: api.TyParam, Id: m.IntN(params)}
		}
		return m.stored(params, 2)
	}
	x := p.Impls[m.IntN(len(p.Impls))]
	var args []api.Type
	for range min(x.Params, api.MaxParams+1) {
		args = append(args, m.instance(p, params, levels-1))
	}
	return unify.Subst(args, x.Type)
}

// generalised makes an implementation that applies to a type: some parts of it become parameters, equal ones the same or not.
func (m maker) generalised(trait int, t api.Type) api.Impl {
	names := map[string]int{}
	x := api.Impl{Trait: trait}
	var general func(t api.Type) api.Type
	general = func(t api.Type) api.Type {
		name := text(t)
		if m.IntN(8) == 0 {
			name += " again"
		}
		if n, ok := names[name]; ok && m.IntN(2) == 0 {
			return api.Type{Kind: api.TyParam, Id: n}
		}
		if m.IntN(3) == 0 && x.Params < api.MaxParams {
			names[name] = x.Params
			x.Params++
			return api.Type{Kind: api.TyParam, Id: names[name]}
		}
		c := api.Type{Kind: t.Kind, Id: t.Id}
		for _, a := range t.Args {
			c.Args = append(c.Args, general(a))
		}
		return c
	}
	x.Type = general(t)
	return x
}
