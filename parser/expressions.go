package parser

import "leasehold/api"

func (r *reader) expr() api.Expr {
	offset := r.offset()
	e := r.unplacedExpr()
	e.Offset = offset
	return e
}

// unplacedExpr reads an expression by its first word, without its offset.
func (r *reader) unplacedExpr() api.Expr {
	switch {
	case r.isNext(api.TokNumber):
		return api.Expr{Kind: api.ExNumber, Number: r.number()}
	case r.accept("-"):
		return api.Expr{Kind: api.ExNumber, Number: -r.number()}
	case r.accept("new"):
		return r.newValue()
	case r.accept("box"):
		return r.operation(api.ExBox, 1)
	case r.accept("unbox"):
		return r.operation(api.ExUnbox, 1)
	case r.accept("&"):
		return r.reference(api.ExShare, api.ExReShare, api.ExInShare)
	case r.accept("&!"):
		return r.reference(api.ExLend, api.ExReLend, api.ExInLend)
	case r.accept("*"):
		return r.operation(api.ExLoad, 1)
	case r.accept("arena"):
		return r.operation(api.ExArena, 0)
	case r.accept("alloc"):
		return r.operation(api.ExAlloc, 2)
	case r.accept("chan"):
		return api.Expr{Kind: api.ExChan, Type: []api.TypeExpr{r.typeExpr()}}
	case r.accept("recv"):
		return r.operation(api.ExRecv, 1)
	}
	return r.afterName(r.name())
}

// operation reads the operands that follow the first word of an expression.
func (r *reader) operation(kind, operands int) api.Expr {
	e := api.Expr{Kind: kind}
	for range operands {
		e.Names = append(e.Names, r.name())
	}
	return e
}

// reference reads what follows & or &!; its kind depends on whether this is a name, or * or in with a name.
func (r *reader) reference(plain, behind, inside int) api.Expr {
	switch {
	case r.accept("*"):
		return r.operation(behind, 1)
	case r.accept("in"):
		return r.operation(inside, 1)
	}
	return r.operation(plain, 1)
}

func (r *reader) newValue() api.Expr {
	e := api.Expr{Kind: api.ExNew}
	e.Name = r.name()
	r.expect(".")
	e.Variant = r.name()
	e.Names = optionalList(r, "(", r.name, ")")
	return e
}

// afterName reads what is left of an expression that begins with a name.
func (r *reader) afterName(name string) api.Expr {
	switch word := r.word(); {
	case r.accept("+", "-", "*", "<", "=="):
		return api.Expr{Kind: api.ExBinary, Op: word, Names: []string{name, r.name()}}
	case r.accept("."):
		return api.Expr{Kind: api.ExField, Names: []string{name}, Number: r.number()}
	case word == "(":
		return api.Expr{Kind: api.ExCall, Name: name, Names: possiblyEmptyList(r, "(", r.name, ")")}
	case r.accept("::"):
		return api.Expr{Kind: api.ExMethod, Name: name, Names: []string{r.name()}}
	}
	return api.Expr{Kind: api.ExName, Names: []string{name}}
}
