package check

import (
	"slices"

	"leasehold/api"
	"leasehold/resolve"
	"leasehold/unify"
)

// failure is the first error, which ends the check by a panic.
type failure struct {
	err    api.Errno
	offset int
}

func refuseIf(wrong bool, err api.Errno, offset int) {
	if wrong {
		panic(failure{err, offset})
	}
}

// local is a local of the function. Its type can have inference variables; the offset is that of what made it.
type local struct {
	t      api.Type
	offset int
}

// variable is a name that means a local.
type variable struct {
	name  string
	local int
}

// checker checks the body of one function. Visible are the variables at the present statement, those declared last at the end; nodes are those of the present block so far; later is what can be checked only when all statements have been examined.
type checker struct {
	program     api.Program
	function    api.Func
	params      []string
	statements  map[int]statementRule
	expressions map[int]expressionRule
	inferred    inference
	locals      []local
	visible     []variable
	nodes       []api.Node
	later       []func()
}

func newChecker(p api.Program, function api.Func, f api.FuncDef) *checker {
	c := &checker{program: p, function: function, params: f.Params, statements: statementRules(), expressions: expressionRules()}
	for i, a := range f.Args {
		c.locals = append(c.locals, local{function.Locals[i], a.Offset})
		c.declare(a.Name, i)
	}
	return c
}

// finished returns the result for a body all of whose statements have been examined.
func (c *checker) finished(body []api.Node) api.Typed {
	typed := api.Typed{Body: body}
	for _, l := range c.locals {
		t := c.inferred.applied(l.t)
		refuseIf(!c.isWellFormed(t), api.ErrType, l.offset)
		typed.Locals = append(typed.Locals, t)
	}
	for _, check := range c.later {
		check()
	}
	return typed
}

func (c *checker) isWellFormed(t api.Type) bool {
	return unify.Valid(c.program, c.function.Params, t)
}

// newLocal makes a local, which has no name yet.
func (c *checker) newLocal(t api.Type, at int) int {
	refuseIf(len(c.locals) >= api.MaxLocals, api.ErrLimit, at)
	c.locals = append(c.locals, local{t, at})
	return len(c.locals) - 1
}

func (c *checker) newLocals(types []api.Type, at int) []int {
	var made []int
	for _, t := range types {
		made = append(made, c.newLocal(t, at))
	}
	return made
}

// declare makes a variable visible up to the end of the present block.
func (c *checker) declare(name string, local int) {
	c.visible = append(c.visible, variable{name, local})
}

// meant returns the local that is meant by the name of a variable.
func (c *checker) meant(name string, at int) int {
	for _, v := range slices.Backward(c.visible) {
		if v.name == name {
			return v.local
		}
	}
	panic(failure{api.ErrName, at})
}

func (c *checker) allMeant(names []string, at int) []int {
	var locals []int
	for _, name := range names {
		locals = append(locals, c.meant(name, at))
	}
	return locals
}

// typeOf returns the type of a local, to which the substitution was not applied.
func (c *checker) typeOf(local int) api.Type { return c.locals[local].t }

// denoted returns the type that a type expression in the body denotes.
func (c *checker) denoted(e api.TypeExpr) api.Type {
	t, err, at := resolve.Type(c.program, c.function.Module, c.params, e)
	refuseIf(err != api.OK, err, at)
	return t
}

// unify makes two types equal. Only types that are too deep, or not well-formed in the tables, can be no arguments of unify.Unify.
func (c *checker) unify(a, b api.Type, at int) {
	err := c.inferred.unify(a, b)
	refuseIf(err == api.ErrArg, api.ErrLimit, at)
	refuseIf(err != api.OK, err, at)
}

// mustBe returns the type of a local as far as it is known, if it is of the form that is needed.
func (c *checker) mustBe(isRight func(api.Type) bool, local, at int) api.Type {
	t := c.inferred.applied(c.typeOf(local))
	refuseIf(!isRight(t), api.ErrType, at)
	return t
}

func (c *checker) emit(i api.Ins) { c.add(api.Node{Kind: api.NdIns, Ins: i}) }

func (c *checker) add(n api.Node) { c.nodes = append(c.nodes, n) }
