package check

import (
	"slices"

	"leasehold/api"
	"leasehold/resolve"
	"leasehold/unify"
)

// expressionRule says how many Names and Type an expression of a Kind has, and how it is checked for its destination, a local.
type expressionRule struct {
	names, types int
	check        func(*checker, api.Expr, int)
}

func expressionRules() map[int]expressionRule {
	return map[int]expressionRule{
		api.ExNumber:  {0, 0, (*checker).constant},
		api.ExName:    {1, 0, (*checker).take},
		api.ExBinary:  {2, 0, (*checker).binary},
		api.ExNew:     {anyNumber, 0, (*checker).make},
		api.ExBox:     {1, 0, (*checker).box},
		api.ExUnbox:   {1, 0, (*checker).unbox},
		api.ExShare:   {1, 0, (*checker).lend},
		api.ExLend:    {1, 0, (*checker).lend},
		api.ExReShare: {1, 0, (*checker).relend},
		api.ExReLend:  {1, 0, (*checker).relend},
		api.ExInShare: {1, 0, (*checker).lendInside},
		api.ExInLend:  {1, 0, (*checker).lendInside},
		api.ExField:   {1, 0, (*checker).field},
		api.ExLoad:    {1, 0, (*checker).load},
		api.ExCall:    {anyNumber, 0, (*checker).callFor},
		api.ExMethod:  {1, 0, (*checker).method},
		api.ExArena:   {0, 0, (*checker).arena},
		api.ExAlloc:   {2, 0, (*checker).alloc},
		api.ExChan:    {0, 1, (*checker).channel},
		api.ExRecv:    {1, 0, (*checker).receive},
	}
}

func (c *checker) expression(x api.Expr, dst int) {
	rule, ok := c.expressions[x.Kind]
	wrong := !ok || rule.names != anyNumber && rule.names != len(x.Names) || rule.types != len(x.Type)
	refuseIf(wrong, api.ErrArg, x.Offset)
	rule.check(c, x, dst)
}

// operand returns the local that is meant by the only name of an expression.
func (c *checker) operand(x api.Expr) int { return c.meant(x.Names[0], x.Offset) }

// become unifies the type of the destination of an expression with another one.
func (c *checker) become(dst int, t api.Type, x api.Expr) { c.unify(c.typeOf(dst), t, x.Offset) }

func (c *checker) constant(x api.Expr, dst int) {
	refuseIf(x.Number < -api.MaxNumber || x.Number > api.MaxNumber, api.ErrLimit, x.Offset)
	c.become(dst, integer(), x)
	c.emit(api.Ins{Op: api.OpConst, Dst: dst, N: x.Number})
}

func (c *checker) take(x api.Expr, dst int) {
	a := c.operand(x)
	c.become(dst, c.typeOf(a), x)
	c.emit(api.Ins{Op: api.OpTake, Dst: dst, A: a})
}

func (c *checker) binary(x api.Expr, dst int) {
	op := operation(x.Op)
	refuseIf(op == 0, api.ErrArg, x.Offset)
	operands := c.allMeant(x.Names, x.Offset)
	for _, a := range operands {
		c.unify(c.typeOf(a), integer(), x.Offset)
	}
	c.become(dst, integer(), x)
	c.emit(api.Ins{Op: op, Dst: dst, A: operands[0], B: operands[1]})
}

// operation returns the Op for the symbol of an operation, or 0.
func operation(symbol string) int {
	switch symbol {
	case "+":
		return api.OpAdd
	case "-":
		return api.OpSub
	case "*":
		return api.OpMul
	case "<":
		return api.OpLess
	case "==":
		return api.OpEqual
	}
	return 0
}

func (c *checker) make(x api.Expr, dst int) {
	n := resolve.Data(c.program, c.function.Module, x.Name)
	refuseIf(n < 0, api.ErrName, x.Offset)
	d := c.program.Datas[n]
	variant := slices.IndexFunc(d.Variants, func(v api.Variant) bool { return v.Name == x.Variant })
	refuseIf(variant < 0, api.ErrName, x.Offset)
	fields := d.Variants[variant].Fields
	refuseIf(len(x.Names) != len(fields), api.ErrType, x.Offset)
	args := c.allMeant(x.Names, x.Offset)
	types := c.newTypes(d.Params, x.Offset)
	c.become(dst, api.Type{Kind: api.TyData, Id: n, Args: types}, x)
	for i, a := range args {
		c.unify(c.typeOf(a), unify.Subst(types, fields[i]), x.Offset)
	}
	c.atEnd(types, x.Offset)
	c.emit(api.Ins{Op: api.OpMake, Dst: dst, N: n, B: variant, Args: args, Types: types})
}

func (c *checker) box(x api.Expr, dst int) {
	a := c.operand(x)
	c.become(dst, typeOver(api.TyBox, c.typeOf(a)), x)
	c.emit(api.Ins{Op: api.OpBox, Dst: dst, A: a})
}

func (c *checker) unbox(x api.Expr, dst int) {
	a := c.operand(x)
	c.unify(c.typeOf(a), typeOver(api.TyBox, c.typeOf(dst)), x.Offset)
	c.emit(api.Ins{Op: api.OpUnbox, Dst: dst, A: a})
}

// lent returns the Kind of the references that an expression makes.
func lent(x api.Expr) int {
	switch x.Kind {
	case api.ExLend, api.ExReLend, api.ExInLend:
		return api.TyExcl
	}
	return api.TyShared
}

// behind returns the type to which a local refers, of which an expression makes a reference: an exclusive one only through an exclusive one.
func (c *checker) behind(a int, x api.Expr) api.Type {
	isRight := isReference
	if lent(x) == api.TyExcl {
		isRight = isExclusive
	}
	return c.mustBe(isRight, a, x.Offset).Args[0]
}

func (c *checker) lend(x api.Expr, dst int) {
	a := c.operand(x)
	c.become(dst, typeOver(lent(x), c.typeOf(a)), x)
	c.emit(api.Ins{Op: api.OpLoan, Dst: dst, A: a})
}

func (c *checker) relend(x api.Expr, dst int) {
	a := c.operand(x)
	c.become(dst, typeOver(lent(x), c.behind(a, x)), x)
	c.emit(api.Ins{Op: api.OpRe, Dst: dst, A: a})
}

func (c *checker) lendInside(x api.Expr, dst int) {
	a := c.operand(x)
	t := c.behind(a, x)
	held := c.inferred.newVariable()
	c.unify(t, typeOver(api.TyBox, held), x.Offset)
	c.become(dst, typeOver(lent(x), held), x)
	c.emit(api.Ins{Op: api.OpIn, Dst: dst, A: a})
}

func (c *checker) field(x api.Expr, dst int) {
	a := c.operand(x)
	isRight := func(t api.Type) bool { return isReference(t) && c.hasField(t.Args[0], x.Number) }
	fields := c.newLocals(c.fieldsOf(c.mustBe(isRight, a, x.Offset), 0), x.Offset)
	c.become(dst, c.typeOf(fields[x.Number]), x)
	c.emit(api.Ins{Op: api.OpSplit, A: a, Args: fields})
	c.emit(api.Ins{Op: api.OpTake, Dst: dst, A: fields[x.Number]})
}

func (c *checker) load(x api.Expr, dst int) {
	a := c.operand(x)
	t := c.mustBe(isLoadable, a, x.Offset)
	c.become(dst, t.Args[0], x)
	c.emit(api.Ins{Op: api.OpLoad, Dst: dst, A: a})
}

func (c *checker) callFor(x api.Expr, dst int) {
	call, f := c.call(x.Name, x.Names, x.Offset)
	call.Op, call.Dst = api.OpCall, dst
	c.become(dst, unify.Subst(call.Types, f.Result), x)
	c.emit(call)
}

func (c *checker) method(x api.Expr, dst int) {
	n := c.trait(x.Name, x.Offset)
	a := c.operand(x)
	types := []api.Type{c.inferred.newVariable()}
	c.unify(c.typeOf(a), typeOver(api.TyShared, types[0]), x.Offset)
	c.become(dst, integer(), x)
	c.atEnd(types, x.Offset, c.requirement(api.Bound{Trait: n}, types, x.Offset))
	c.emit(api.Ins{Op: api.OpMethod, Dst: dst, N: n, Args: []int{a}, Types: types})
}

func (c *checker) arena(x api.Expr, dst int) {
	c.become(dst, api.Type{Kind: api.TyArena}, x)
	c.emit(api.Ins{Op: api.OpArena, Dst: dst})
}

func (c *checker) alloc(x api.Expr, dst int) {
	operands := c.allMeant(x.Names, x.Offset)
	a, b := operands[0], operands[1]
	c.unify(c.typeOf(a), typeOver(api.TyShared, api.Type{Kind: api.TyArena}), x.Offset)
	c.become(dst, typeOver(api.TyExcl, c.typeOf(b)), x)
	c.emit(api.Ins{Op: api.OpAlloc, Dst: dst, A: a, B: b})
}

func (c *checker) channel(x api.Expr, dst int) {
	c.become(dst, typeOver(api.TyChan, c.denoted(x.Type[0])), x)
	c.emit(api.Ins{Op: api.OpChan, Dst: dst})
}

func (c *checker) receive(x api.Expr, dst int) {
	a := c.operand(x)
	c.unify(c.typeOf(a), typeOver(api.TyChan, c.typeOf(dst)), x.Offset)
	c.emit(api.Ins{Op: api.OpRecv, Dst: dst, A: a})
}
