package lift

import "leasehold/api"

// callee is a local function, as those see it who call it: the name of the lifted one, the captures, and the name of what is passed for each of them.
type callee struct {
	name     string
	captures []api.ArgDef
	passed   []string
}

func newCallee(name string, f *api.FuncDef) *callee {
	g := &callee{name: name, captures: f.Captures}
	for _, c := range f.Captures {
		passed := c.Name
		if _, lends := reference(c.Capture); lends != 0 {
			passed = f.Name + "." + c.Name
		}
		g.passed = append(g.passed, passed)
	}
	return g
}

// loans returns the statements that make the references which are passed by a statement with an offset.
func (g *callee) loans(offset int) []api.Stmt {
	var list []api.Stmt
	for i, c := range g.captures {
		if _, lends := reference(c.Capture); lends != 0 {
			loan := api.Expr{Kind: lends, Names: []string{c.Name}, Offset: offset}
			list = append(list, api.Stmt{Kind: api.StLet, Name: g.passed[i], Expr: loan, Offset: offset})
		}
	}
	return list
}

// reference returns the symbol of the references by which something is captured, and the Kind of the expressions that make them; nothing if it is captured by moving it.
func reference(capture int) (symbol string, lends int) {
	switch capture {
	case api.CaptureShared:
		return "&", api.ExShare
	case api.CaptureExcl:
		return "&!", api.ExLend
	}
	return "", 0
}

// callIn returns where the name of a called function and the names for its arguments stand in a statement; nil if nothing is called where local functions can be called.
func callIn(s *api.Stmt) (name *string, names *[]string) {
	switch s.Kind {
	case api.StLet, api.StSet:
		if s.Expr.Kind == api.ExCall {
			return &s.Expr.Name, &s.Expr.Names
		}
	case api.StSpawn:
		return &s.Name, &s.Names
	}
	return nil, nil
}
