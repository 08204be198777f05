package matching

import (
	"math/rand/v2"
	"slices"

	"leasehold/api"
	"leasehold/unify"
)

// maker makes random arguments.
type maker struct{ *rand.Rand }

func seeded(n uint64) maker { return maker{rand.New(rand.NewPCG(n, 8))} }

func (m maker) one(of ...int) int { return of[m.IntN(len(of))] }

// datas makes data types with the Params 0, 1, 2, 0, 1 and so on, which can contain each other and themselves.
func (m maker) datas() []api.Data {
	d := make([]api.Data, m.one(1, 2, 3, 4, 6))
	for i := range d {
		d[i].Params = i % 3
	}
	for i := range d {
		for range m.one(0, 1, 1, 2, 2, 2, 3, 4) {
			v := api.Variant{}
			for range m.one(0, 0, 1, 1, 2, 3) {
				v.Fields = append(v.Fields, m.typ(d, d[i].Params, 3))
			}
			d[i].Variants = append(d[i].Variants, v)
		}
	}
	return d
}

// typ makes a type, which is mostly a data type, with as many levels.
func (m maker) typ(d []api.Data, params, levels int) api.Type {
	if params > 0 && m.IntN(3) == 0 {
		return api.Type{Kind: api.TyParam, Id: m.IntN(params)}
	}
	if m.IntN(8) == 0 || levels == 0 {
		return api.Type{Kind: m.one(api.TyInt, api.TyChan)}
	}
	t := api.Type{Kind: api.TyData, Id: m.IntN(len(d))}
	for range d[t.Id].Params {
		t.Args = append(t.Args, m.typ(d, params, levels-1))
	}
	return t
}

// pattern makes a pattern that is right for a type.
func (m maker) pattern(d []api.Data, t api.Type, levels int) api.Pattern {
	x := api.Pattern{Variant: -1}
	if t.Kind != api.TyData || levels == 0 || m.IntN(4) == 0 || len(d[t.Id].Variants) == 0 {
		return x
	}
	x.Variant = m.IntN(len(d[t.Id].Variants))
	for _, field := range d[t.Id].Variants[x.Variant].Fields {
		x.Fields = append(x.Fields, m.pattern(d, unify.Subst(t.Args, field), levels-1))
	}
	return x
}

// list makes patterns that are right for a type, with at most three levels; some of them occur twice, or differ only in one part.
func (m maker) list(d []api.Data, t api.Type, n int) []api.Pattern {
	var l []api.Pattern
	for range n {
		switch {
		case len(l) > 0 && m.IntN(8) == 0:
			l = append(l, l[m.IntN(len(l))])
		case len(l) > 0 && m.IntN(3) == 0:
			l = append(l, m.changed(d, t, l[m.IntN(len(l))], 3))
		default:
			l = append(l, m.pattern(d, t, 3))
		}
	}
	return l
}

// changed puts another pattern for a part of a pattern that is right for a type.
func (m maker) changed(d []api.Data, t api.Type, x api.Pattern, levels int) api.Pattern {
	if len(x.Fields) == 0 || m.IntN(3) == 0 {
		return m.pattern(d, t, levels)
	}
	x.Fields = slices.Clone(x.Fields)
	i := m.IntN(len(x.Fields))
	x.Fields[i] = m.changed(d, unify.Subst(t.Args, d[t.Id].Variants[x.Variant].Fields[i]), x.Fields[i], levels-1)
	return x
}

// spoiled changes one number of a pattern, so that it often is not right.
func (m maker) spoiled(x api.Pattern) api.Pattern {
	x.Fields = slices.Clone(x.Fields)
	i := m.IntN(len(x.Fields) + 1)
	switch {
	case i < len(x.Fields):
		x.Fields[i] = m.spoiled(x.Fields[i])
	case m.IntN(3) == 0:
		x.Fields = append(x.Fields, api.Pattern{Variant: m.one(-1, 0)})
	case len(x.Fields) > 0 && m.IntN(3) == 0:
		x.Fields = x.Fields[1:]
	default:
		x.Variant += m.one(-3, -2, -1, 1, 2, 3)
	}
	return x
}
