package parser

import "leasehold/api"

// statement says how what follows the first word of a statement is read.
type statement struct {
	kind int
	read func(*reader, *api.Stmt)
}

// statements are found by their first words. Only a statement that sets a local begins with no fixed word.
func statements() map[string]statement {
	return map[string]statement{
		"let":    {api.StLet, (*reader).let},
		"*":      {api.StStore, (*reader).store},
		"if":     {api.StIf, (*reader).choice},
		"while":  {api.StWhile, (*reader).loop},
		"match":  {api.StMatch, (*reader).match},
		"return": {api.StReturn, (*reader).named},
		"panic":  {api.StPanic, (*reader).bare},
		"drop":   {api.StDrop, (*reader).named},
		"print":  {api.StPrint, (*reader).named},
		"send":   {api.StSend, (*reader).send},
		"spawn":  {api.StSpawn, (*reader).spawn},
		"fn":     {api.StFunc, (*reader).local},
	}
}

func (r *reader) block() []api.Stmt {
	r.expect("{")
	return untilBrace(r, r.stmt)
}

func (r *reader) stmt() api.Stmt {
	s := api.Stmt{Offset: r.offset()}
	form, found := r.statements[r.word()]
	if !found {
		r.set(&s)
		return s
	}
	r.take()
	s.Kind = form.kind
	form.read(r, &s)
	return s
}

func (r *reader) set(s *api.Stmt) {
	s.Kind = api.StSet
	s.Name = r.name()
	r.expect("=")
	s.Expr = r.expr()
	r.expect(";")
}

func (r *reader) let(s *api.Stmt) {
	s.Name = r.name()
	if r.accept(":") {
		s.Type = []api.TypeExpr{r.typeExpr()}
	}
	r.expect("=")
	s.Expr = r.expr()
	r.expect(";")
}

func (r *reader) store(s *api.Stmt) {
	s.Name = r.name()
	r.expect("=")
	s.Names = []string{r.name()}
	r.expect(";")
}

func (r *reader) choice(s *api.Stmt) {
	s.Name = r.name()
	s.Then = r.block()
	if r.accept("else") {
		s.Else = r.block()
	}
}

func (r *reader) loop(s *api.Stmt) {
	s.Name = r.name()
	s.Then = r.block()
}

func (r *reader) match(s *api.Stmt) {
	s.Name = r.name()
	r.expect("{")
	first := r.arm()
	s.Arms = append([]api.ArmDef{first}, untilBrace(r, r.arm)...)
}

func (r *reader) arm() api.ArmDef {
	a := api.ArmDef{Offset: r.offset()}
	a.Variant = r.name()
	a.Names = optionalList(r, "(", r.name, ")")
	a.Body = r.block()
	return a
}

func (r *reader) named(s *api.Stmt) {
	s.Name = r.name()
	r.expect(";")
}

func (r *reader) bare(*api.Stmt) { r.expect(";") }

func (r *reader) send(s *api.Stmt) {
	s.Name = r.name()
	s.Names = []string{r.name()}
	r.expect(";")
}

func (r *reader) spawn(s *api.Stmt) {
	s.Name = r.name()
	s.Names = possiblyEmptyList(r, "(", r.name, ")")
	r.expect(";")
}

func (r *reader) local(s *api.Stmt) { s.Func = []api.FuncDef{r.localFunction(s.Offset)} }
