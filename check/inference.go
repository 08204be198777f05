package check

import (
	"slices"

	"leasehold/api"
	"leasehold/unify"
)

// inference is the substitution by which types are inferred, with the element of each variable, the zero type if it is unsolved. Above says of each unsolved variable how many levels, at most, are above it in the types of the solved ones.
//
// A step works with the part for the variables that its types reach, as there can be far more of them in all. The others matter only in that their types must not become too deep.
type inference struct {
	elements []api.Type
	above    []int
}

// newVariable returns a new inference variable.
func (n *inference) newVariable() api.Type {
	n.elements, n.above = append(n.elements, api.Type{}), append(n.above, 0)
	return variableType(len(n.elements) - 1)
}

func (n *inference) newVariables(count int) []api.Type {
	var made []api.Type
	for range count {
		made = append(made, n.newVariable())
	}
	return made
}

// applied returns the type to which the substitution was applied; the zero type if it is not over the substitution.
func (n *inference) applied(t api.Type) api.Type {
	p := n.part(t)
	return p.outside(unify.Apply(p.elements, p.inside(t)))
}

// unify extends the substitution so that two types become equal, or returns the error of unify.Unify. A variable of the part that is deep inside the types of others has as many boxes around it in one more element, so that it does not get a type with which those become too deep.
func (n *inference) unify(a, b api.Type) api.Errno {
	p := n.part(a, b)
	for i, v := range p.variables {
		if n.above[v] > 0 {
			p.elements = append(p.elements, boxed(n.above[v], variableType(i)))
		}
	}
	unifier, err := unify.Unify(p.elements, p.inside(a), p.inside(b))
	if err != api.OK {
		return err
	}
	for i, t := range unifier {
		t = p.outside(t)
		if i < len(p.variables) {
			n.elements[p.variables[i]] = t
		}
		n.raise(t, 0)
	}
	return api.OK
}

// raise notes how many levels are above the variables in a type of a solved one.
func (n *inference) raise(t api.Type, levels int) {
	if n.has(t) {
		n.above[t.Id] = max(n.above[t.Id], levels)
	}
	for _, a := range t.Args {
		n.raise(a, levels+1)
	}
}

// has reports whether a type is a variable of the substitution. (With Args it is none; then unify refuses it.)
func (n *inference) has(t api.Type) bool {
	return t.Kind == api.TyVar && t.Id >= 0 && t.Id < len(n.elements)
}

// part is a part of a substitution that is one itself: its variables, in increasing order, are numbered anew from 0 on.
type part struct {
	variables []int
	numbers   map[int]int
	elements  []api.Type
}

// part returns the part of the substitution for the variables that types reach.
func (n *inference) part(types ...api.Type) part {
	p := part{numbers: map[int]int{}}
	var reach func(t api.Type)
	reach = func(t api.Type) {
		if _, known := p.numbers[t.Id]; n.has(t) && !known {
			p.numbers[t.Id] = 0
			p.variables = append(p.variables, t.Id)
		}
		for _, a := range t.Args {
			reach(a)
		}
	}
	for _, t := range types {
		reach(t)
	}
	for i := 0; i < len(p.variables); i++ {
		reach(n.elements[p.variables[i]])
	}
	slices.Sort(p.variables)
	for i, v := range p.variables {
		p.numbers[v] = i
	}
	for _, v := range p.variables {
		p.elements = append(p.elements, p.inside(n.elements[v]))
	}
	return p
}

// inside returns a type with the numbers that its variables have in the part. What is no variable of the substitution is none of the part.
func (p part) inside(t api.Type) api.Type {
	return renumbered(t, func(v int) int {
		if i, ok := p.numbers[v]; ok {
			return i
		}
		return -1
	})
}

// outside returns a type of the part with the numbers that its variables have in the whole substitution.
func (p part) outside(t api.Type) api.Type {
	return renumbered(t, func(i int) int { return p.variables[i] })
}

// renumbered returns a type in which variables have other numbers.
func renumbered(t api.Type, number func(int) int) api.Type {
	if t.Kind == api.TyVar {
		t.Id = number(t.Id)
	}
	args := slices.Grow([]api.Type(nil), len(t.Args))
	for _, a := range t.Args {
		args = append(args, renumbered(a, number))
	}
	t.Args = args
	return t
}
