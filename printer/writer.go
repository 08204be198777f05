package printer

import (
	"strconv"
	"strings"

	"leasehold/api"
)

// writer writes lines of printable modules.
type writer struct {
	strings.Builder
	depth int // data types, blocks and matches in which the next line stands
}

// join writes a list with commas in between.
func join[T any](w *writer, list []T, write func(T)) {
	for i, x := range list {
		if i > 0 {
			w.WriteString(", ")
		}
		write(x)
	}
}

// bracket writes a list in brackets.
func bracket[T any](w *writer, opening string, list []T, closing string, write func(T)) {
	w.WriteString(opening)
	join(w, list, write)
	w.WriteString(closing)
}

// bracketAny writes a list in brackets, which are left out if there is nothing in between.
func bracketAny[T any](w *writer, opening string, list []T, closing string, write func(T)) {
	if len(list) > 0 {
		bracket(w, opening, list, closing, write)
	}
}

// lines writes each element of a list in lines of its own. All but the last one have a separator at their ends.
func lines[T any](w *writer, list []T, separator string, write func(T)) {
	for i, x := range list {
		w.indent()
		write(x)
		if i < len(list)-1 {
			w.WriteString(separator)
		}
		w.WriteString("\n")
	}
}

// braces writes a list in lines between braces, the last of which begins a line that can go on.
func braces[T any](w *writer, list []T, separator string, write func(T)) {
	w.WriteString("{\n")
	w.depth++
	lines(w, list, separator, write)
	w.depth--
	w.indent()
	w.WriteString("}")
}

func (w *writer) indent() {
	for range w.depth {
		w.WriteString("  ")
	}
}

func (w *writer) name(s string) { w.WriteString(s) }

// nextName writes the first one of some names, and leaves the others.
func (w *writer) nextName(names *[]string) {
	w.name((*names)[0])
	*names = (*names)[1:]
}

func (w *writer) module(m api.Module) {
	w.WriteString("module " + m.Name + ";\n")
	lines(w, m.Uses, "", w.use)
	lines(w, m.Datas, "", w.data)
	lines(w, m.Traits, "", w.trait)
	lines(w, m.Impls, "", w.impl)
	lines(w, m.Funcs, "", w.function)
}

func (w *writer) use(name string) { w.WriteString("use " + name + ";") }

func (w *writer) data(d api.DataDef) {
	w.WriteString("data " + d.Name)
	bracketAny(w, "<", d.Params, ">", w.name)
	w.WriteString(" ")
	braces(w, d.Variants, ",", w.variant)
	w.dropAction(d.Drop)
	w.WriteString(";")
}

func (w *writer) dropAction(drop int) {
	switch {
	case drop < 0:
		w.WriteString(" drop panic")
	case drop > 0:
		w.WriteString(" drop " + strconv.Itoa(drop))
	}
}

func (w *writer) variant(v api.VariantDef) {
	w.WriteString(v.Name)
	bracketAny(w, "(", v.Fields, ")", w.typeExpr)
}

func (w *writer) trait(t api.TraitDef) { w.WriteString("trait " + t.Name + ";") }

func (w *writer) impl(i api.ImplDef) {
	w.WriteString("impl")
	bracketAny(w, "<", i.Params, ">", w.name)
	w.WriteString(" " + i.Trait + " for ")
	w.typeExpr(i.Type)
	bracketAny(w, " where ", i.Bounds, "", w.bound)
	w.WriteString(" = " + i.Func + ";")
}

func (w *writer) bound(b api.BoundDef) { w.WriteString(b.Param + ": " + b.Trait) }

func (w *writer) function(f api.FuncDef) {
	w.WriteString("fn " + f.Name)
	bracketAny(w, "<", f.Params, ">", w.name)
	w.fromArgs(f)
}

func (w *writer) local(f api.FuncDef) {
	w.WriteString("fn " + f.Name)
	bracket(w, "[", f.Captures, "]", w.capture)
	w.fromArgs(f)
}

// fromArgs writes a function from its arguments on, where local functions are like others.
func (w *writer) fromArgs(f api.FuncDef) {
	bracket(w, "(", f.Args, ")", w.arg)
	w.WriteString(" -> ")
	w.typeExpr(f.Result)
	bracketAny(w, " where ", f.Bounds, "", w.bound)
	w.WriteString(" ")
	w.block(f.Body)
}

func (w *writer) arg(a api.ArgDef) {
	w.WriteString(a.Name + ": ")
	w.typeExpr(a.Type)
}

func (w *writer) capture(a api.ArgDef) {
	w.WriteString(captures[a.Capture])
	w.arg(a)
}

func (w *writer) typeExpr(t api.TypeExpr) {
	w.WriteString(t.Name)
	if t.Name == "&" || t.Name == "&!" {
		w.typeExpr(t.Args[0])
		return
	}
	bracketAny(w, "<", t.Args, ">", w.typeExpr)
}

func (w *writer) block(body []api.Stmt) { braces(w, body, "", w.statement) }

func (w *writer) arm(a api.ArmDef) {
	w.WriteString(a.Variant)
	bracketAny(w, "(", a.Names, ")", w.name)
	w.WriteString(" ")
	w.block(a.Body)
}

// statement writes a statement by its form.
func (w *writer) statement(s api.Stmt) {
	for _, place := range statementForm(s.Kind) {
		switch place {
		case 'N':
			w.name(s.Name)
		case 'A':
			w.nextName(&s.Names)
		case 'L':
			bracket(w, "(", s.Names, ")", w.name)
		case 'D':
			bracketAny(w, ": ", s.Type, "", w.typeExpr)
		case 'E':
			w.expression(s.Expr)
		case 'B':
			w.block(s.Then)
		case 'C':
			w.otherwise(s.Else)
		case 'M':
			braces(w, s.Arms, "", w.arm)
		case 'G':
			w.local(s.Func[0])
		default:
			w.WriteRune(place)
		}
	}
}

func (w *writer) otherwise(body []api.Stmt) {
	if len(body) > 0 {
		w.WriteString(" else ")
		w.block(body)
	}
}

// expression writes an expression by its form.
func (w *writer) expression(e api.Expr) {
	for _, place := range expressionForm(e.Kind) {
		switch place {
		case 'N':
			w.name(e.Name)
		case 'V':
			w.name(e.Variant)
		case 'O':
			w.WriteString(e.Op)
		case 'I', 'F':
			w.WriteString(strconv.Itoa(e.Number))
		case 'A':
			w.nextName(&e.Names)
		case 'L':
			bracket(w, "(", e.Names, ")", w.name)
		case 'P':
			bracketAny(w, "(", e.Names, ")", w.name)
		case 'T':
			w.typeExpr(e.Type[0])
		default:
			w.WriteRune(place)
		}
	}
}
