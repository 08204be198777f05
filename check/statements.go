package check

import (
	"slices"

	"leasehold/api"
)

// anyNumber stands for a number of Names that is not laid down.
const anyNumber = -1

// statementRule says how many Names a statement of a Kind has, whether it can have a Type, and how it is checked.
type statementRule struct {
	names int
	typed bool
	check func(*checker, api.Stmt)
}

func statementRules() map[int]statementRule {
	return map[int]statementRule{
		api.StLet:    {0, true, (*checker).let},
		api.StSet:    {0, false, (*checker).set},
		api.StStore:  {1, false, (*checker).store},
		api.StIf:     {0, false, (*checker).branch},
		api.StWhile:  {0, false, (*checker).loop},
		api.StMatch:  {0, false, (*checker).match},
		api.StReturn: {0, false, (*checker).giveBack},
		api.StPanic:  {0, false, (*checker).stop},
		api.StDrop:   {0, false, (*checker).drop},
		api.StPrint:  {0, false, (*checker).print},
		api.StSend:   {1, false, (*checker).send},
		api.StSpawn:  {anyNumber, false, (*checker).spawn},
	}
}

func (r statementRule) allows(s api.Stmt) bool {
	types := len(s.Type) == 0 || r.typed && len(s.Type) == 1
	return (r.names == anyNumber || r.names == len(s.Names)) && types && len(s.Func) == 0
}

// block checks the statements of a block, and returns its nodes.
func (c *checker) block(l []api.Stmt) []api.Node {
	around, visible := c.nodes, len(c.visible)
	c.nodes = nil
	for _, s := range l {
		rule, ok := c.statements[s.Kind]
		refuseIf(!ok || !rule.allows(s), api.ErrArg, s.Offset)
		rule.check(c, s)
	}
	nodes := c.nodes
	c.nodes, c.visible = around, c.visible[:visible]
	return nodes
}

func (c *checker) let(s api.Stmt) {
	var t api.Type
	if len(s.Type) == 1 {
		t = c.denoted(s.Type[0])
	} else {
		t = c.inferred.newVariable()
	}
	made := c.newLocal(t, s.Offset)
	c.expression(s.Expr, made)
	c.declare(s.Name, made)
}

func (c *checker) set(s api.Stmt) {
	c.expression(s.Expr, c.meant(s.Name, s.Offset))
}

func (c *checker) store(s api.Stmt) {
	a, b := c.meant(s.Name, s.Offset), c.meant(s.Names[0], s.Offset)
	c.unify(c.typeOf(a), typeOver(api.TyExcl, c.typeOf(b)), s.Offset)
	c.emit(api.Ins{Op: api.OpStore, A: a, B: b})
}

func (c *checker) branch(s api.Stmt) {
	a := c.number(s)
	then := c.block(s.Then)
	c.add(api.Node{Kind: api.NdIf, A: a, Then: then, Else: c.block(s.Else)})
}

func (c *checker) loop(s api.Stmt) {
	a := c.number(s)
	c.add(api.Node{Kind: api.NdWhile, A: a, Then: c.block(s.Then)})
}

// number returns the local that a statement names, which is an integer.
func (c *checker) number(s api.Stmt) int {
	a := c.meant(s.Name, s.Offset)
	c.unify(c.typeOf(a), integer(), s.Offset)
	return a
}

func (c *checker) match(s api.Stmt) {
	a := c.meant(s.Name, s.Offset)
	t := c.mustBe(c.hasVariants, a, s.Offset)
	variants := c.variantsOf(dataOf(t))
	arms, done := make([][]api.Node, len(variants)), make([]bool, len(variants))
	for _, arm := range s.Arms {
		named := func(v api.Variant) bool { return v.Name == arm.Variant }
		variant := slices.IndexFunc(variants, named)
		refuseIf(variant < 0, api.ErrName, arm.Offset)
		refuseIf(done[variant], api.ErrTwice, arm.Offset)
		arms[variant], done[variant] = c.arm(arm, a, t, variant), true
	}
	refuseIf(slices.Contains(done, false), api.ErrMatch, s.Offset)
	c.add(api.Node{Kind: api.NdMatch, A: a, Arms: arms})
}

// arm checks an arm for a variant of the local a, whose type is t, and returns its nodes.
func (c *checker) arm(arm api.ArmDef, a int, t api.Type, variant int) []api.Node {
	fields := c.fieldsOf(t, variant)
	refuseIf(len(arm.Names) != len(fields), api.ErrType, arm.Offset)
	for i, name := range arm.Names {
		refuseIf(slices.Contains(arm.Names[:i], name), api.ErrTwice, arm.Offset)
	}
	open, visible := api.Ins{Op: api.OpOpen, A: a, B: variant}, len(c.visible)
	if isReference(t) {
		open.Op = api.OpSplit
	}
	open.Args = c.newLocals(fields, arm.Offset)
	for i, name := range arm.Names {
		c.declare(name, open.Args[i])
	}
	nodes := append([]api.Node{{Kind: api.NdIns, Ins: open}}, c.block(arm.Body)...)
	c.visible = c.visible[:visible]
	return nodes
}

func (c *checker) giveBack(s api.Stmt) {
	a := c.meant(s.Name, s.Offset)
	c.unify(c.typeOf(a), c.function.Result, s.Offset)
	c.add(api.Node{Kind: api.NdReturn, A: a})
}

func (c *checker) stop(api.Stmt) { c.add(api.Node{Kind: api.NdPanic}) }

func (c *checker) drop(s api.Stmt) {
	a := c.meant(s.Name, s.Offset)
	c.mustBe(isOwning, a, s.Offset)
	c.emit(api.Ins{Op: api.OpDrop, A: a})
}

func (c *checker) print(s api.Stmt) {
	c.emit(api.Ins{Op: api.OpPrint, A: c.number(s)})
}

func (c *checker) send(s api.Stmt) {
	a, b := c.meant(s.Name, s.Offset), c.meant(s.Names[0], s.Offset)
	c.unify(c.typeOf(a), typeOver(api.TyChan, c.typeOf(b)), s.Offset)
	c.emit(api.Ins{Op: api.OpSend, A: a, B: b})
}

func (c *checker) spawn(s api.Stmt) {
	call, f := c.call(s.Name, s.Names, s.Offset)
	call.Op = api.OpSpawn
	wrong := func(t api.Type) bool { return !isStored(t) }
	refuseIf(slices.ContainsFunc(f.Locals[:f.Arity], wrong) || wrong(f.Result), api.ErrType, s.Offset)
	c.emit(call)
}
