package check

import (
	"slices"

	"leasehold/api"
	"leasehold/resolve"
	"leasehold/traits"
	"leasehold/unify"
)

// mostTypes is far more than the generic parameters that a source can have, and few enough for the memory.
const mostTypes = 1 << 20

// call checks a call of a function with the variables Names. It returns the instruction, still without its Op and Dst, and the function.
func (c *checker) call(name string, names []string, at int) (api.Ins, api.Func) {
	n := resolve.Func(c.program, c.function.Module, name)
	refuseIf(n < 0, api.ErrName, at)
	f := c.program.Funcs[n]
	refuseIf(len(names) != f.Arity || f.Arity > len(f.Locals), api.ErrType, at)
	args := c.allMeant(names, at)
	types := c.newTypes(f.Params, at)
	for i, a := range args {
		c.unify(c.typeOf(a), unify.Subst(types, f.Locals[i]), at)
	}
	var required []func()
	for _, b := range f.Bounds {
		required = append(required, c.requirement(b, types, at))
	}
	c.atEnd(types, at, required...)
	return api.Ins{N: n, Args: args, Types: types}, f
}

// newTypes returns new inference variables for the list Types of an instruction.
func (c *checker) newTypes(count, at int) []api.Type {
	refuseIf(count > mostTypes, api.ErrLimit, at)
	return c.inferred.newVariables(count)
}

// atEnd puts off the examination of the list Types of an instruction, and then of its requirements, to the end. The list is then changed to the types that were inferred.
func (c *checker) atEnd(types []api.Type, at int, required ...func()) {
	c.later = append(c.later, func() {
		for i, t := range types {
			types[i] = c.inferred.applied(t)
			refuseIf(!isStored(types[i]) || !c.isWellFormed(types[i]), api.ErrType, at)
		}
		for _, require := range required {
			require()
		}
	})
}

// requirement returns what examines, once the types are inferred, whether the one for the parameter of a bound implements its trait.
func (c *checker) requirement(b api.Bound, types []api.Type, at int) func() {
	return func() {
		refuseIf(b.Param < 0 || b.Param >= len(types), api.ErrTrait, at)
		_, err := traits.Select(c.program, c.function.Bounds, b.Trait, types[b.Param])
		refuseIf(err != api.OK, api.ErrTrait, at)
	}
}

// trait returns the least index of a visible trait with a name. (resolve.Trait needs the modules from which the program was made.)
func (c *checker) trait(name string, at int) int {
	module, used := c.function.Module, []int(nil)
	if module < len(c.program.Uses) {
		used = c.program.Uses[module]
	}
	for i, home := range c.program.Homes {
		if c.program.Traits[i] == name && (home == module || slices.Contains(used, home)) {
			return i
		}
	}
	panic(failure{api.ErrName, at})
}
