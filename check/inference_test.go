package check

import (
	"testing"

	"leasehold/api"
	"leasehold/typetest"
	"leasehold/unify"
)

// shape makes a type over some variables, now and then one that is not over them or no type at all.
func (m maker) shape(variables, levels int) api.Type {
	kind := []int{api.TyInt, api.TyVar, api.TyVar, api.TyVar, api.TyBox, api.TyBox, api.TyData, api.TyParam}[m.IntN(8)]
	t := api.Type{Kind: kind}
	switch {
	case m.IntN(200) == 0:
		return api.Type{Kind: m.IntN(12), Id: m.IntN(3) - 1, Args: []api.Type{{Kind: api.TyVar, Id: variables + m.IntN(2) - 1}}}
	case kind == api.TyVar && variables > 0:
		t.Id = m.IntN(variables)
	case kind == api.TyBox && levels > 1:
		t.Args = []api.Type{m.shape(variables, levels-1)}
	case kind == api.TyData && levels > 1:
		t.Args = []api.Type{m.shape(variables, levels-1), m.shape(variables, levels-1)}
	case kind != api.TyInt && kind != api.TyParam:
		return integer()
	}
	return t
}

// The parts of a substitution do what one substitution for all variables does.
func TestInference(t *testing.T) {
	t.Parallel()
	m := seeded(2)
	count := map[api.Errno]int{}
	for range 3000 {
		n := &inference{}
		var s []api.Type
		for range 30 {
			if m.IntN(2) == 0 && len(s) < 12 {
				if got := n.newVariable(); text(got) != text(variableType(len(s))) {
					t.Fatalf("a new variable %s after %d", text(got), len(s))
				}
				s = append(s, api.Type{})
			}
			a, b := m.shape(len(s), 1+m.IntN(4)), m.shape(len(s), 1+m.IntN(4))
			if m.IntN(3) == 0 {
				b = boxed(m.IntN(7), b)
			}
			unifier, want := unify.Unify(s, a, b)
			err := n.unify(a, b)
			if count[err]++; err != want {
				t.Fatalf("%s and %s in %v: error %d, want %d", text(a), text(b), n.elements, err, want)
			}
			if err == api.OK {
				s = unifier
			}
			for range 3 {
				x := m.shape(len(s), 3)
				if got, want := text(n.applied(x)), text(unify.Apply(s, x)); got != want {
					t.Fatalf("%s in %v: %s, want %s", text(x), n.elements, got, want)
				}
			}
		}
		for i := range s {
			if got, want := text(n.applied(variableType(i))), text(unify.Apply(s, variableType(i))); got != want {
				t.Fatalf("v%d in %v: %s, want %s", i, n.elements, got, want)
			}
		}
	}
	few(t, count, 250, api.OK, api.ErrType, api.ErrLimit, api.ErrArg)
}

// A number that is no variable's does not become one in a part, in which other numbers stand for the levels above variables.
func TestNoVariable(t *testing.T) {
	n := &inference{}
	n.newVariables(4)
	if err := n.unify(ty("v3"), ty("D0(v0,v1,v2)")); err != api.OK {
		t.Fatal(err)
	}
	for _, stray := range []string{"v4", "v5", "v-1", "v6", "v7", "v0(Int)"} {
		x := ty("D0(v0,v1,v2," + stray + ")")
		if err := n.unify(x, x); err != api.ErrArg {
			t.Errorf("%s: error %d", text(x), err)
		}
		if got := n.applied(x); !typetest.IsZero(got) {
			t.Errorf("%s became %s", text(x), text(got))
		}
	}
}
