package traits

import (
	"math"
	"slices"
	"testing"

	"leasehold/api"
)

// anyNumber makes a number that is often an index, and sometimes none.
func (m maker) anyNumber() int {
	return m.one(0, 0, 0, 1, 1, 2, 2, 3, 4, 5, -1, math.MinInt, math.MaxInt)
}

// anyType makes a type of any parts.
func (m maker) anyType(levels int) api.Type {
	t := api.Type{Kind: m.one(-1, 0, 1, 1, 2, 2, 3, 3, 4, 5, 5, 5, 6, 7, 8, 9, 10, math.MinInt, math.MaxInt), Id: m.one(0, 0, m.anyNumber())}
	for range m.IntN(3) {
		if levels > 1 {
			t.Args = append(t.Args, m.anyType(levels-1))
		}
	}
	return t
}

func (m maker) anyBounds() []api.Bound {
	var l []api.Bound
	for range m.IntN(3) {
		l = append(l, api.Bound{Param: m.anyNumber(), Trait: m.anyNumber()})
	}
	return l
}

// anyProgram makes a program of any parts.
func (m maker) anyProgram() api.Program {
	p := program()
	p.Traits, p.Homes, p.Datas = p.Traits[:m.IntN(4)], p.Homes[:m.IntN(4)], slices.Clone(p.Datas[:m.IntN(4)])
	for i := range p.Datas {
		p.Datas[i].Params, p.Datas[i].Module = m.one(p.Datas[i].Params, m.anyNumber()), m.anyNumber()
	}
	for range m.IntN(6) {
		p.Impls = append(p.Impls, api.Impl{Trait: m.one(0, m.anyNumber()), Module: m.one(0, m.anyNumber()), Params: m.one(1, 2, m.anyNumber()), Type: m.anyType(3), Bounds: m.anyBounds(), Func: m.anyNumber()})
		if m.IntN(2) == 0 {
			p.Impls = append(p.Impls, m.impl(3))
		}
	}
	return p
}

// anyProof makes a proof of any parts; many of its numbers and types are right.
func (m maker) anyProof(p api.Program, x api.Proof) api.Proof {
	if m.IntN(6) == 0 {
		x.Bound = !x.Bound
	}
	if m.IntN(6) == 0 {
		x.Index = m.anyNumber()
	}
	x.Types, x.From = slices.Clone(x.Types), slices.Clone(x.From)
	for i := range x.Types {
		if m.IntN(6) == 0 {
			x.Types[i] = m.anyType(2)
		}
	}
	for i := range x.From {
		x.From[i] = m.anyProof(p, x.From[i])
	}
	if m.IntN(6) == 0 {
		x.Types = append(x.Types, m.anyType(2))
	}
	if m.IntN(6) == 0 && len(x.From) < 3 {
		x.From = append(x.From, m.anyProof(p, api.Proof{Index: m.IntN(len(p.Impls) + 1)}))
	}
	return x
}

// P0.1: any arguments; the descriptions say what comes of them.
func TestAnyArguments(t *testing.T) {
	m := seeded(10)
	count, proved := map[api.Errno]int{}, map[bool]int{}
	for range 40000 {
		p, assume := m.anyProgram(), m.anyBounds()
		count[checkCoherent(t, p)]++
		checkOverlap(t, api.Impl{Trait: m.anyNumber(), Params: m.anyNumber(), Type: m.anyType(4)}, api.Impl{Trait: m.anyNumber(), Params: m.anyNumber(), Type: m.anyType(4)})
		trait, x := m.anyNumber(), m.anyType(4)
		if m.IntN(2) == 0 {
			trait, x = m.IntN(3), m.instance(p, 3, 2)
		}
		got, err := checkSelect(t, p, assume, trait, x)
		count[err]++
		proved[checkProves(t, p, assume, trait, x, m.anyProof(p, got))]++
	}
	few(t, count, 500, api.OK, api.ErrArg, api.ErrTrait, api.ErrCycle)
	few(t, proved, 500, true, false)
}

// tower returns a type with n levels above an integer.
func tower(n, kind int) api.Type {
	t := ty("Int")
	for range n {
		t = api.Type{Kind: kind, Args: []api.Type{t}}
	}
	return t
}

// P0.1: types that are very deep.
func TestDeep(t *testing.T) {
	deep := api.Impl{Type: tower(60000, api.TyBox)}
	if Overlap(deep, deep) || Overlap(deep, impl("0/1 P0")) {
		t.Error("too deep, but they overlap")
	}
	p := program("0/1 Box(P0) 0:0", "1/1 Chan(P0)", "0/0 Int")
	p.Impls = append(p.Impls, deep)
	if err, a, b := Coherent(p); err != api.ErrArg || a != 3 || b != 3 {
		t.Errorf("error %d, %d, %d", err, a, b)
	}
	for _, test := range []struct {
		trait int
		t     api.Type
		want  api.Errno
	}{{0, tower(10000, api.TyBox), api.ErrLimit}, {0, tower(399, api.TyBox), api.OK}, {0, tower(60000, api.TyChan), api.ErrTrait}, {1, tower(60000, api.TyChan), api.OK}} {
		x, err := Select(p, nil, test.trait, test.t)
		if err != test.want || err != api.OK && !isZeroProof(x) || err == api.OK && !Proves(p, nil, test.trait, test.t, x) {
			t.Errorf("error %d", err)
		}
	}
	p = program("0/0 Int", "0/1 P0 0:0")
	long := api.Proof{}
	for range 60000 {
		long = api.Proof{Index: 1, Types: types("Int"), From: []api.Proof{long}}
	}
	if !Proves(p, nil, 0, ty("Int"), long) || Proves(p, nil, 0, ty("D2"), long) {
		t.Error("a long proof")
	}
}

// P0.1: types that are very wide, and proofs of which what Subst returns is far too great.
func TestWide(t *testing.T) {
	wide := func(n int, x api.Type) api.Type {
		return api.Type{Kind: api.TyData, Args: slices.Repeat([]api.Type{x}, n)}
	}
	a := api.Impl{Params: 1, Type: wide(50000, ty("P0"))}
	b := api.Impl{Params: 1, Type: wide(50000, ty("Box(P0)"))}
	c := api.Impl{Params: 1, Type: wide(50000, ty("Box(P0)"))}
	c.Type.Args[49999] = ty("P0")
	if !Overlap(a, b) || !Overlap(b, b) || Overlap(b, c) || Overlap(a, c) || Overlap(a, api.Impl{Type: wide(49999, ty("Int"))}) {
		t.Error("wide types")
	}
	p := api.Program{Traits: []string{"a"}, Homes: []int{0}, Datas: []api.Data{{Params: 50000}}, Impls: []api.Impl{a, b}}
	if err, first, own := Coherent(p); err != api.ErrOverlap || first != 0 || own != 1 {
		t.Errorf("error %d, %d, %d", err, first, own)
	}
	x, err := Select(p, nil, 0, wide(50000, ty("Int")))
	if err != api.OK || !Proves(p, nil, 0, wide(50000, ty("Int")), x) {
		t.Errorf("error %d", err)
	}
	x.Types[0] = wide(500000, ty("Int"))
	if Proves(p, nil, 0, wide(50000, ty("Int")), x) || Proves(p, nil, 0, wide(50000, ty("P0")), x) {
		t.Error("too wide a type for the parameter")
	}
}

// P0.1: as many implementations of one trait as there can be in the sources of a program.
func TestManyImplementations(t *testing.T) {
	p := program()
	p.Datas = nil
	for i := range 3000 {
		p.Datas = append(p.Datas, api.Data{Params: 1})
		p.Impls = append(p.Impls, api.Impl{Params: 1, Type: api.Type{Kind: api.TyBox, Args: []api.Type{{Kind: api.TyData, Id: i, Args: types("P0")}}}, Bounds: bounds("0:0")})
	}
	if err, _, _ := Coherent(p); err != api.OK {
		t.Errorf("error %d", err)
	}
	p.Impls = append(p.Impls, impl("0/0 Box(D2999(Int))"))
	if err, a, b := Coherent(p); err != api.ErrOverlap || a != 2999 || b != 3000 {
		t.Errorf("error %d, %d, %d", err, a, b)
	}
}
