package unify

import (
	"slices"

	"leasehold/api"
)

// failure is the error that ends unifying by a panic.
type failure api.Errno

func refuseIf(wrong bool, err api.Errno) {
	if wrong {
		panic(failure(err))
	}
}

// unified returns the most general unifier of two types that extends a well-formed substitution.
func unified(s []api.Type, a, b api.Type) []api.Type {
	v := newSolver(s)
	v.join(v.add(a), v.add(b))
	solution := v.solution()
	// The type itself is examined as if it were the element of one more variable.
	depths, finite := depthsOf(append(slices.Clip(solution), a))
	refuseIf(!finite, api.ErrType)
	refuseIf(slices.ContainsFunc(depths, isTooDeep), api.ErrLimit)
	unifier, apply := make([]api.Type, len(s)), application(solution)
	for i, t := range solution {
		unifier[i] = apply(t)
	}
	return unifier
}

// term is a part of a type, with the numbers of the terms of its Args. Terms that have to become equal are a class: each one leads to another one of its class, and the last one, which speaks for the class, to itself.
type term struct {
	t    api.Type
	args []int
	next int
}

// solver has the terms of a substitution and of types over it; the first ones are those of the variables, by their numbers. Classes are joined, and not types compared, as each variable can double the number of parts that types have once the substitution is applied.
type solver struct {
	variables int
	terms     []term
}

func newSolver(s []api.Type) *solver {
	v := &solver{variables: len(s)}
	for i := range s {
		v.terms = append(v.terms, term{t: variable(i), next: i})
	}
	for i, t := range s {
		if !isUnsolved(t) {
			v.join(i, v.add(t))
		}
	}
	return v
}

func variable(number int) api.Type { return api.Type{Kind: api.TyVar, Id: number} }

// add adds the terms of a type, and returns the number of its own one.
func (v *solver) add(t api.Type) int {
	if t.Kind == api.TyVar {
		return t.Id
	}
	args := slices.Grow([]int(nil), len(t.Args))
	for _, a := range t.Args {
		args = append(args, v.add(a))
	}
	v.terms = append(v.terms, term{t, args, len(v.terms)})
	return len(v.terms) - 1
}

// speaker returns the term that speaks for the class of a term, and shortens the way to it.
func (v *solver) speaker(i int) int {
	for v.terms[i].next != i {
		v.terms[i].next = v.terms[v.terms[i].next].next
		i = v.terms[i].next
	}
	return i
}

// join makes one class of those of two terms, and of those of the Args that then have to become equal. A variable speaks for a class only if there is nothing else in it.
func (v *solver) join(a, b int) {
	for pairs := [][2]int{{a, b}}; len(pairs) > 0; {
		last := len(pairs) - 1
		a, b := v.speaker(pairs[last][0]), v.speaker(pairs[last][1])
		pairs = pairs[:last]
		switch {
		case a == b:
		case a < v.variables:
			v.terms[a].next = b
		case b < v.variables:
			v.terms[b].next = a
		default:
			v.terms[a].next = b
			pairs = append(pairs, v.args(v.terms[a], v.terms[b])...)
		}
	}
}

// args returns the pairs of Args of two terms that have to become equal.
func (v *solver) args(a, b term) [][2]int {
	refuseIf(!sameHead(a.t, b.t) || len(a.args) != len(b.args), api.ErrType)
	var pairs [][2]int
	for i := range a.args {
		pairs = append(pairs, [2]int{a.args[i], b.args[i]})
	}
	return pairs
}

// solution returns a substitution that makes the terms of each class equal when it is applied, unless a variable reaches itself in it. The least variable of a class has what speaks for the class, the others have this variable.
func (v *solver) solution() []api.Type {
	least := map[int]int{}
	elements := make([]api.Type, v.variables)
	for i := range elements {
		speaker := v.speaker(i)
		if first, ok := least[speaker]; ok {
			elements[i] = variable(first)
			continue
		}
		least[speaker] = i
		if speaker >= v.variables {
			elements[i] = v.terms[speaker].t
		}
	}
	return elements
}
