package traits

import (
	"slices"

	"leasehold/api"
	"leasehold/unify"
)

// failure is the error that ends selecting by a panic.
type failure api.Errno

func refuseIf(wrong bool, err api.Errno) {
	if wrong {
		panic(failure(err))
	}
}

// goal is a trait, and a type that has to implement it. The number of the type's parts is kept, as it tells most types apart: those of a goal and of others that are needed for it are alike down to their ends.
type goal struct {
	trait int
	t     api.Type
	parts int
}

func newGoal(trait int, t api.Type) goal { return goal{trait, t, parts(t)} }

func (g goal) equals(other goal) bool {
	return g.trait == other.trait && g.parts == other.parts && same(g.t, other.t)
}

// isBound reports whether an assumed bound fits a goal.
func (g goal) isBound(assumed api.Bound) bool {
	return g.t.Kind == api.TyParam && assumed == api.Bound{Param: g.t.Id, Trait: g.trait}
}

// application returns the first implementation of a goal's trait that applies to its type, as a proof in which only those for its bounds are missing.
func (g goal) application(l []api.Impl) api.Proof {
	for i, m := range l {
		if m.Trait != g.trait {
			continue
		}
		if types, ok := unify.Match(m.Type, g.t, m.Params); ok {
			return api.Proof{Index: i, Types: types}
		}
	}
	panic(failure(api.ErrTrait))
}

// selected returns the selected proof of a goal. Its goals are met in the order in which errors count; those that wait for others are kept in a list, as only they can need themselves.
func selected(l []api.Impl, assume []api.Bound, first goal) api.Proof {
	met := 0
	var waiting []goal
	var prove func(g goal) api.Proof
	prove = func(g goal) api.Proof {
		met++
		refuseIf(met > api.MaxEntries, api.ErrLimit)
		refuseIf(slices.ContainsFunc(waiting, g.equals), api.ErrCycle)
		if i := slices.IndexFunc(assume, g.isBound); i >= 0 {
			return api.Proof{Bound: true, Index: i}
		}
		proof := g.application(l)
		waiting = append(waiting, g)
		for _, b := range l[proof.Index].Bounds {
			t, _ := element(proof.Types, b.Param) // the zero type, if the implementation has no such parameter
			proof.From = append(proof.From, prove(newGoal(b.Trait, t)))
		}
		waiting = waiting[:len(waiting)-1]
		return proof
	}
	return prove(first)
}

func isProof(l []api.Impl, assume []api.Bound, g goal, x api.Proof) bool {
	if x.Bound {
		assumed, ok := element(assume, x.Index)
		return ok && g.isBound(assumed) && len(x.Types) == 0 && len(x.From) == 0
	}
	m, ok := element(l, x.Index)
	if !ok || m.Trait != g.trait || len(x.Types) != m.Params || !becomes(m.Type, x.Types, g.t) || len(x.From) != len(m.Bounds) {
		return false
	}
	for i, b := range m.Bounds {
		t, ok := element(x.Types, b.Param)
		if !ok || !isProof(l, assume, newGoal(b.Trait, t), x.From[i]) {
			return false
		}
	}
	return true
}
