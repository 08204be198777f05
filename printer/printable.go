package printer

import "leasehold/api"

// every reports whether all elements of a list are as they have to be.
func every[T any](list []T, good func(T) bool) bool {
	for _, x := range list {
		if !good(x) {
			return false
		}
	}
	return true
}

// take returns what a part has in it, and leaves nothing there.
func take[T any](part *T) T {
	var nothing T
	taken := *part
	*part = nothing
	return taken
}

func isName(s string) bool {
	if s == "" || len(s) > api.MaxName || isKeyWord(s) {
		return false
	}
	for i := range len(s) {
		if !isLetter(s[i]) && (i == 0 || !isDigit(s[i]) && s[i] != '_') {
			return false
		}
	}
	return true
}

func isLetter(b byte) bool { return 'a' <= b && b <= 'z' || 'A' <= b && b <= 'Z' }

func isDigit(b byte) bool { return '0' <= b && b <= '9' }

func isKeyWord(s string) bool {
	switch s {
	case "module", "use", "data", "trait", "impl", "for", "where", "fn", "let", "if", "else", "while", "match", "return", "panic", "drop", "print", "send", "spawn",
		"new", "box", "unbox", "in", "arena", "alloc", "chan", "recv", "move", "Int", "Arena", "Box", "Chan":
		return true
	}
	return false
}

func isOperator(s string) bool {
	switch s {
	case "+", "-", "*", "<", "==":
		return true
	}
	return false
}

func isNumber(n, least int) bool { return least <= n && n <= api.MaxNumber }

func isType(t api.TypeExpr) bool {
	switch t.Name {
	case "Int", "Arena":
		return len(t.Args) == 0
	case "Box", "Chan", "&", "&!":
		return len(t.Args) == 1 && isType(t.Args[0])
	}
	return isName(t.Name) && every(t.Args, isType)
}

func isData(d api.DataDef) bool {
	return isName(d.Name) && every(d.Params, isName) && len(d.Variants) > 0 && every(d.Variants, isVariant) && isNumber(d.Drop, -1)
}

func isVariant(v api.VariantDef) bool { return isName(v.Name) && every(v.Fields, isType) }

func isTrait(t api.TraitDef) bool { return isName(t.Name) }

func isImpl(i api.ImplDef) bool {
	return isName(i.Trait) && every(i.Params, isName) && every(i.Bounds, isBound) && isType(i.Type) && isName(i.Func)
}

func isBound(b api.BoundDef) bool { return isName(b.Param) && isName(b.Trait) }

// isFunction reports whether a function is printable where it is no local one.
func isFunction(f api.FuncDef) bool {
	return every(f.Params, isName) && every(f.Bounds, isBound) && len(f.Captures) == 0 && isAnyFunction(f)
}

func isLocal(f api.FuncDef) bool {
	return len(f.Params) == 0 && len(f.Bounds) == 0 && every(f.Captures, isCapture) && isAnyFunction(f)
}

// isAnyFunction checks what local functions and others have in common.
func isAnyFunction(f api.FuncDef) bool {
	return isName(f.Name) && every(f.Args, isArg) && isType(f.Result) && every(f.Body, isStatement)
}

func isArg(a api.ArgDef) bool { return isName(a.Name) && isType(a.Type) && a.Capture == 0 }

func isCapture(a api.ArgDef) bool {
	kind := take(&a.Capture)
	return kind >= 0 && kind < len(captures) && isArg(a)
}

func isArm(a api.ArmDef) bool {
	return isName(a.Variant) && every(a.Names, isName) && every(a.Body, isStatement)
}

// isStatement takes from a copy of a statement all that has a place in its form; nothing must be left.
func isStatement(s api.Stmt) bool {
	form := statementForm(s.Kind)
	for _, place := range form {
		if !takeFromStatement(&s, place) {
			return false
		}
	}
	rest := len(s.Names) + len(s.Type) + len(s.Then) + len(s.Else) + len(s.Arms) + len(s.Func)
	return form != "" && s.Name == "" && rest == 0 && s.Expr.Kind == 0 && isEmpty(s.Expr)
}

// takeFromStatement takes the part that stands at a place, and reports whether it is printable there.
func takeFromStatement(s *api.Stmt, place rune) bool {
	switch place {
	case 'N':
		return isName(take(&s.Name))
	case 'A':
		return takeName(&s.Names)
	case 'L':
		return every(take(&s.Names), isName)
	case 'D':
		types := take(&s.Type)
		return len(types) <= 1 && every(types, isType)
	case 'E':
		return isExpression(take(&s.Expr))
	case 'B':
		return every(take(&s.Then), isStatement)
	case 'C':
		return every(take(&s.Else), isStatement)
	case 'M':
		arms := take(&s.Arms)
		return len(arms) > 0 && every(arms, isArm)
	case 'G':
		local := take(&s.Func)
		return len(local) == 1 && every(local, isLocal)
	}
	return true
}

// isExpression takes from a copy of an expression all that has a place in its form; nothing must be left.
func isExpression(e api.Expr) bool {
	form := expressionForm(e.Kind)
	for _, place := range form {
		if !takeFromExpression(&e, place) {
			return false
		}
	}
	return form != "" && isEmpty(e)
}

// takeFromExpression takes the part that stands at a place, and reports whether it is printable there.
func takeFromExpression(e *api.Expr, place rune) bool {
	switch place {
	case 'N':
		return isName(take(&e.Name))
	case 'V':
		return isName(take(&e.Variant))
	case 'O':
		return isOperator(take(&e.Op))
	case 'I':
		return isNumber(take(&e.Number), -api.MaxNumber)
	case 'F':
		return isNumber(take(&e.Number), 0)
	case 'A':
		return takeName(&e.Names)
	case 'L', 'P':
		return every(take(&e.Names), isName)
	case 'T':
		types := take(&e.Type)
		return len(types) == 1 && every(types, isType)
	}
	return true
}

// takeName takes the first one of some names.
func takeName(names *[]string) bool {
	if len(*names) == 0 || !isName((*names)[0]) {
		return false
	}
	*names = (*names)[1:]
	return true
}

// isEmpty reports whether an expression has nothing but its kind, and its offset, which does not matter.
func isEmpty(e api.Expr) bool {
	return e.Op == "" && e.Name == "" && e.Variant == "" && len(e.Names) == 0 && e.Number == 0 && len(e.Type) == 0
}
