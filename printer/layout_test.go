package printer

import (
	"strconv"
	"strings"

	"leasehold/api"
)

// words lists the tokens of a module, a second description of what is written. It does not ask whether the module is printable: a part that is missing is an empty word, and parts that have no place are left out.
type words []string

func (l *words) put(w ...string) { *l = append(*l, w...) }

// commas puts a list with commas in between.
func commas[T any](l *words, list []T, put func(T)) {
	for i, x := range list {
		if i > 0 {
			l.put(",")
		}
		put(x)
	}
}

// listed puts a list with words around it, or nothing if it is empty.
func listed[T any](l *words, before string, list []T, after string, put func(T)) {
	if len(list) > 0 {
		l.put(before)
		commas(l, list, put)
		l.put(after)
	}
}

func (l *words) name(s string) { l.put(s) }

// part returns a name out of a list of names.
func part(names []string, i int) string {
	if i < len(names) {
		return names[i]
	}
	return ""
}

// number puts the tokens of a number.
func (l *words) number(n int) {
	s := strconv.Itoa(n)
	if s[0] == '-' {
		l.put("-")
	}
	l.put(strings.TrimPrefix(s, "-"))
}

func wordsOf(m api.Module) []string {
	l := &words{}
	l.put("module", m.Name, ";")
	for _, u := range m.Uses {
		l.put("use", u, ";")
	}
	for _, d := range m.Datas {
		l.data(d)
	}
	for _, t := range m.Traits {
		l.put("trait", t.Name, ";")
	}
	for _, i := range m.Impls {
		l.put("impl")
		listed(l, "<", i.Params, ">", l.name)
		l.put(i.Trait, "for")
		l.typ(i.Type)
		listed(l, "where", i.Bounds, "", l.bound)
		l.put("=", i.Func, ";")
	}
	for _, f := range m.Funcs {
		l.put("fn", f.Name)
		listed(l, "<", f.Params, ">", l.name)
		l.rest(f)
	}
	return *l
}

func (l *words) data(d api.DataDef) {
	l.put("data", d.Name)
	listed(l, "<", d.Params, ">", l.name)
	l.put("{")
	commas(l, d.Variants, func(v api.VariantDef) {
		l.put(v.Name)
		listed(l, "(", v.Fields, ")", l.typ)
	})
	l.put("}")
	switch d.Drop {
	case 0:
	case -1:
		l.put("drop", "panic")
	default:
		l.put("drop")
		l.number(d.Drop)
	}
	l.put(";")
}

func (l *words) bound(b api.BoundDef) { l.put(b.Param, ":", b.Trait) }

func (l *words) arg(a api.ArgDef) {
	l.put(a.Name, ":")
	l.typ(a.Type)
}

// rest puts what comes after the name of a function and the brackets behind it.
func (l *words) rest(f api.FuncDef) {
	l.put("(")
	commas(l, f.Args, l.arg)
	l.put(")", "->")
	l.typ(f.Result)
	listed(l, "where", f.Bounds, "", l.bound)
	l.block(f.Body)
}

func (l *words) typ(t api.TypeExpr) {
	l.put(t.Name)
	switch t.Name {
	case "&", "&!":
		listed(l, "", t.Args, "", l.typ)
	default:
		listed(l, "<", t.Args, ">", l.typ)
	}
}

func (l *words) block(body []api.Stmt) {
	l.put("{")
	for _, s := range body {
		l.stmt(s)
	}
	l.put("}")
}

func (l *words) stmt(s api.Stmt) {
	switch s.Kind {
	case api.StLet:
		l.put("let", s.Name)
		if len(s.Type) > 0 {
			l.put(":")
			l.typ(s.Type[0])
		}
		l.put("=")
		l.expr(s.Expr)
		l.put(";")
	case api.StSet:
		l.put(s.Name, "=")
		l.expr(s.Expr)
		l.put(";")
	case api.StStore:
		l.put("*", s.Name, "=", part(s.Names, 0), ";")
	case api.StIf:
		l.put("if", s.Name)
		l.block(s.Then)
		if len(s.Else) > 0 {
			l.put("else")
			l.block(s.Else)
		}
	case api.StWhile:
		l.put("while", s.Name)
		l.block(s.Then)
	case api.StMatch:
		l.put("match", s.Name, "{")
		for _, a := range s.Arms {
			l.put(a.Variant)
			listed(l, "(", a.Names, ")", l.name)
			l.block(a.Body)
		}
		l.put("}")
	case api.StReturn:
		l.put("return", s.Name, ";")
	case api.StPanic:
		l.put("panic", ";")
	case api.StDrop:
		l.put("drop", s.Name, ";")
	case api.StPrint:
		l.put("print", s.Name, ";")
	case api.StSend:
		l.put("send", s.Name, part(s.Names, 0), ";")
	case api.StSpawn:
		l.put("spawn", s.Name, "(")
		commas(l, s.Names, l.name)
		l.put(")", ";")
	case api.StFunc:
		for _, f := range s.Func {
			l.local(f)
		}
	}
}

func (l *words) local(f api.FuncDef) {
	l.put("fn", f.Name, "[")
	commas(l, f.Captures, func(a api.ArgDef) {
		switch a.Capture {
		case api.CaptureMove:
			l.put("move")
		case api.CaptureShared:
			l.put("&")
		case api.CaptureExcl:
			l.put("&!")
		}
		l.arg(a)
	})
	l.put("]")
	l.rest(f)
}

func (l *words) expr(e api.Expr) {
	a, b := part(e.Names, 0), part(e.Names, 1)
	switch e.Kind {
	case api.ExNumber:
		l.number(e.Number)
	case api.ExName:
		l.put(a)
	case api.ExBinary:
		l.put(a, e.Op, b)
	case api.ExNew:
		l.put("new", e.Name, ".", e.Variant)
		listed(l, "(", e.Names, ")", l.name)
	case api.ExBox:
		l.put("box", a)
	case api.ExUnbox:
		l.put("unbox", a)
	case api.ExShare:
		l.put("&", a)
	case api.ExLend:
		l.put("&!", a)
	case api.ExReShare:
		l.put("&", "*", a)
	case api.ExReLend:
		l.put("&!", "*", a)
	case api.ExInShare:
		l.put("&", "in", a)
	case api.ExInLend:
		l.put("&!", "in", a)
	case api.ExField:
		l.put(a, ".")
		l.number(e.Number)
	case api.ExLoad:
		l.put("*", a)
	case api.ExCall:
		l.put(e.Name, "(")
		commas(l, e.Names, l.name)
		l.put(")")
	case api.ExMethod:
		l.put(e.Name, "::", a)
	case api.ExArena:
		l.put("arena")
	case api.ExAlloc:
		l.put("alloc", a, b)
	case api.ExChan:
		l.put("chan")
		for _, t := range e.Type {
			l.typ(t)
		}
	case api.ExRecv:
		l.put("recv", a)
	}
}

// layOut puts tokens in lines as the chapter says, without knowing what they mean.
func layOut(tokens []api.Token) string {
	var b, line strings.Builder
	var open []bool // for each brace that is open, whether it is that of a data type
	brackets, isData := 0, false
	for i, x := range tokens {
		if x.Text == "}" {
			isData = open[len(open)-1]
			open = open[:len(open)-1]
		}
		if line.Len() == 0 {
			line.WriteString(strings.Repeat("  ", len(open)))
			isData = isData && x.Text == "}" || x.Text == "data"
		} else if hasBlank(tokens, i) {
			line.WriteString(" ")
		}
		line.WriteString(x.Text)
		switch x.Text {
		case "{":
			open = append(open, isData)
		case "(", "<":
			brackets++
		case ")", ">":
			brackets--
		}
		if endsLine(tokens, i, isData, brackets == 0 && len(open) > 0 && open[len(open)-1]) {
			b.WriteString(line.String() + "\n")
			line.Reset()
			brackets = 0
		}
	}
	return b.String() + line.String()
}

// endsLine says whether a line ends after a token. A data type goes on after its brace; variants are in lines of their own.
func endsLine(tokens []api.Token, i int, isData, inVariants bool) bool {
	switch tokens[i].Text {
	case ";", "{":
		return true
	case "}":
		return !isData && (i+1 == len(tokens) || tokens[i+1].Text != "else")
	}
	return inVariants && (tokens[i].Text == "," || tokens[i+1].Text == "}")
}

// hasBlank says whether there is a blank before a token within a line, by the sentence of the chapter.
func hasBlank(tokens []api.Token, i int) bool {
	before, after := tokens[i-1], tokens[i]
	is := func(t api.Token, texts string) bool { return strings.Contains(" "+texts+" ", " "+t.Text+" ") }
	isOperator := func(i int) bool { return i >= 2 && tokens[i-2].Text == "=" && tokens[i-1].Kind == api.TokName }
	switch {
	case is(after, ", ; : ) ] > . ::"), is(before, "( [ & &! . ::"):
		return false
	case is(after, "( [ <") && before.Kind == api.TokName:
		return isOperator(i) && after.Text == "<"
	case after.Text == "(":
		return !is(before, "> ]")
	case before.Text == "<":
		return isOperator(i - 1)
	case before.Text == "-":
		return after.Kind != api.TokNumber
	case before.Text == "*":
		return isOperator(i - 1)
	}
	return true
}
