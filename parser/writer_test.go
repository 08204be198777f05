package parser

import (
	"math/rand/v2"
	"strconv"
	"strings"

	"leasehold/api"
)

// writer writes the text of a random module, and says what has to be read from it: a second description of what is read.
type writer struct {
	strings.Builder
	r    *rand.Rand
	last string // the token before
}

const closed = "(){}[],;"

// put writes tokens, with gaps before them, and returns the offset of the first one.
func (w *writer) put(words ...string) int {
	first := -1
	for _, word := range words {
		w.WriteString(w.gap(w.last, word))
		if first < 0 {
			first = w.Len()
		}
		w.WriteString(word)
		w.last = word
	}
	return first
}

// gap returns a random gap between two tokens, which is empty only where they stay apart.
func (w *writer) gap(before, after string) string {
	gaps := []string{" ", " ", " ", "\n", "\t", "\r\n", "  ", "# let\n", " #; }\n #\n"}
	if (before == "" || strings.Contains(closed, before) || strings.Contains(closed, after)) && w.r.IntN(2) == 0 {
		return ""
	}
	return gaps[w.r.IntN(len(gaps))]
}

func (w *writer) one(l ...string) string { return l[w.r.IntN(len(l))] }

func (w *writer) name() string {
	return w.one("x", "y", "z", "T", "modules", "i", "int", "ints", "Boxes", "chan_", "data1", "IF", "Fn", "a_b_1", strings.Repeat("n", 24))
}

// named writes a name and returns it with its offset.
func (w *writer) named() (string, int) {
	n := w.name()
	return n, w.put(n)
}

func (w *writer) putName() string {
	n, _ := w.named()
	return n
}

func (w *writer) putNumber() int {
	n := w.one("0", "1", "5", "007", "1000000000", "0999999999")
	w.put(n)
	v, _ := strconv.Atoi(n)
	return v
}

// several writes so many things, with commas in between.
func several[T any](w *writer, n int, write func() T) []T {
	var l []T
	for i := range n {
		if i > 0 {
			w.put(",")
		}
		l = append(l, write())
	}
	return l
}

// optional writes brackets with things in between, or nothing.
func optional[T any](w *writer, opening string, write func() T, closing string) []T {
	n := w.r.IntN(4)
	if n == 0 {
		return nil
	}
	w.put(opening)
	l := several(w, n, write)
	w.put(closing)
	return l
}

func bracketed[T any](w *writer, opening string, write func() T, closing string) []T {
	w.put(opening)
	l := several(w, w.r.IntN(4), write)
	w.put(closing)
	return l
}

func (w *writer) module(size int) api.Module {
	var m api.Module
	w.put("module")
	m.Name = w.putName()
	w.put(";")
	for range w.r.IntN(3) {
		w.put("use")
		m.Uses = append(m.Uses, w.putName())
		w.put(";")
	}
	for range w.r.IntN(5) {
		switch w.r.IntN(5) {
		case 0:
			m.Datas = append(m.Datas, w.data())
		case 1:
			t := api.TraitDef{Offset: w.put("trait")}
			t.Name = w.putName()
			w.put(";")
			m.Traits = append(m.Traits, t)
		case 2:
			m.Impls = append(m.Impls, w.impl())
		default:
			m.Funcs = append(m.Funcs, w.function(size))
		}
	}
	w.WriteString(w.gap(";", ""))
	return m
}

func (w *writer) data() api.DataDef {
	d := api.DataDef{Offset: w.put("data")}
	d.Name = w.putName()
	d.Params = optional(w, "<", w.putName, ">")
	w.put("{")
	d.Variants = several(w, 1+w.r.IntN(3), func() api.VariantDef {
		var v api.VariantDef
		v.Name, v.Offset = w.named()
		v.Fields = optional(w, "(", w.anyType, ")")
		return v
	})
	w.put("}")
	switch w.r.IntN(3) {
	case 0:
		w.put("drop", "panic")
		d.Drop = -1
	case 1:
		w.put("drop")
		d.Drop = w.putNumber()
	}
	w.put(";")
	return d
}

func (w *writer) where() []api.BoundDef {
	if w.r.IntN(2) == 0 {
		return nil
	}
	w.put("where")
	return several(w, 1+w.r.IntN(3), func() api.BoundDef {
		var b api.BoundDef
		b.Param, b.Offset = w.named()
		w.put(":")
		b.Trait = w.putName()
		return b
	})
}

func (w *writer) impl() api.ImplDef {
	i := api.ImplDef{Offset: w.put("impl")}
	i.Params = optional(w, "<", w.putName, ">")
	i.Trait = w.putName()
	w.put("for")
	i.Type = w.anyType()
	i.Bounds = w.where()
	w.put("=")
	i.Func = w.putName()
	w.put(";")
	return i
}

func (w *writer) function(size int) api.FuncDef {
	f := api.FuncDef{Offset: w.put("fn")}
	f.Name = w.putName()
	f.Params = optional(w, "<", w.putName, ">")
	f.Args = bracketed(w, "(", w.arg, ")")
	w.put("->")
	f.Result = w.anyType()
	f.Bounds = w.where()
	f.Body = w.block(size)
	return f
}

func (w *writer) local(offset, size int) api.FuncDef {
	f := api.FuncDef{Offset: offset}
	f.Name = w.putName()
	f.Captures = bracketed(w, "[", func() api.ArgDef {
		kind := w.r.IntN(3)
		at := w.put([]string{"move", "&", "&!"}[kind])
		a := w.arg()
		a.Offset = at
		a.Capture = []int{api.CaptureMove, api.CaptureShared, api.CaptureExcl}[kind]
		return a
	}, "]")
	f.Args = bracketed(w, "(", w.arg, ")")
	w.put("->")
	f.Result = w.anyType()
	f.Body = w.block(size)
	return f
}

func (w *writer) arg() api.ArgDef {
	var a api.ArgDef
	a.Name, a.Offset = w.named()
	w.put(":")
	a.Type = w.anyType()
	return a
}

func (w *writer) anyType() api.TypeExpr {
	var t api.TypeExpr
	switch w.r.IntN(6) {
	case 0, 1:
		t.Name = w.one("Int", "Arena")
		t.Offset = w.put(t.Name)
	case 2:
		t.Name = w.one("Box", "Chan")
		t.Offset = w.put(t.Name)
		w.put("<")
		t.Args = []api.TypeExpr{w.anyType()}
		w.put(">")
	case 3:
		t.Name = w.one("&", "&!")
		t.Offset = w.put(t.Name)
		t.Args = []api.TypeExpr{w.anyType()}
	case 4:
		t.Name, t.Offset = w.named()
	default:
		t.Name, t.Offset = w.named()
		w.put("<")
		t.Args = several(w, 1+w.r.IntN(2), w.anyType)
		w.put(">")
	}
	return t
}

// block writes statements, of which those with blocks become smaller.
func (w *writer) block(size int) []api.Stmt {
	var l []api.Stmt
	w.put("{")
	for range w.r.IntN(size + 1) {
		l = append(l, w.stmt(size/2))
	}
	w.put("}")
	return l
}

func (w *writer) stmt(size int) api.Stmt {
	s := api.Stmt{Kind: 1 + w.r.IntN(api.StFunc)}
	switch s.Kind {
	case api.StLet:
		s.Offset = w.put("let")
		s.Name = w.putName()
		if w.r.IntN(2) == 0 {
			w.put(":")
			s.Type = []api.TypeExpr{w.anyType()}
		}
		w.put("=")
		s.Expr = w.expr()
		w.put(";")
	case api.StSet:
		s.Name, s.Offset = w.named()
		w.put("=")
		s.Expr = w.expr()
		w.put(";")
	case api.StStore:
		s.Offset = w.put("*")
		s.Name = w.putName()
		w.put("=")
		s.Names = []string{w.putName()}
		w.put(";")
	case api.StIf:
		s.Offset = w.put("if")
		s.Name = w.putName()
		s.Then = w.block(size)
		if w.r.IntN(2) == 0 {
			w.put("else")
			s.Else = w.block(size)
		}
	case api.StWhile:
		s.Offset = w.put("while")
		s.Name = w.putName()
		s.Then = w.block(size)
	case api.StMatch:
		s.Offset = w.put("match")
		s.Name = w.putName()
		w.put("{")
		for range 1 + w.r.IntN(3) {
			var a api.ArmDef
			a.Variant, a.Offset = w.named()
			a.Names = optional(w, "(", w.putName, ")")
			a.Body = w.block(size)
			s.Arms = append(s.Arms, a)
		}
		w.put("}")
	case api.StReturn, api.StDrop, api.StPrint:
		s.Offset = w.put(map[int]string{api.StReturn: "return", api.StDrop: "drop", api.StPrint: "print"}[s.Kind])
		s.Name = w.putName()
		w.put(";")
	case api.StPanic:
		s.Offset = w.put("panic")
		w.put(";")
	case api.StSend:
		s.Offset = w.put("send")
		s.Name = w.putName()
		s.Names = []string{w.putName()}
		w.put(";")
	case api.StSpawn:
		s.Offset = w.put("spawn")
		s.Name = w.putName()
		s.Names = bracketed(w, "(", w.putName, ")")
		w.put(";")
	case api.StFunc:
		s.Offset = w.put("fn")
		s.Func = []api.FuncDef{w.local(s.Offset, size)}
	}
	return s
}

func (w *writer) expr() api.Expr {
	e := api.Expr{Kind: 1 + w.r.IntN(api.ExRecv)}
	prefix := map[int][]string{api.ExBox: {"box"}, api.ExUnbox: {"unbox"}, api.ExShare: {"&"}, api.ExLend: {"&!"}, api.ExReShare: {"&", "*"}, api.ExReLend: {"&!", "*"}, api.ExInShare: {"&", "in"}, api.ExInLend: {"&!", "in"}, api.ExLoad: {"*"}, api.ExRecv: {"recv"}}
	switch e.Kind {
	case api.ExNumber:
		sign := 1
		first := w.one("-", "0", "12")
		e.Offset = w.put(first)
		e.Number, _ = strconv.Atoi(first)
		if first == "-" {
			sign = -1
			e.Number = w.putNumber()
		}
		e.Number *= sign
	case api.ExName:
		n, at := w.named()
		e.Names, e.Offset = []string{n}, at
	case api.ExBinary:
		n, at := w.named()
		e.Offset = at
		e.Op = w.one("+", "-", "*", "<", "==")
		w.put(e.Op)
		e.Names = []string{n, w.putName()}
	case api.ExNew:
		e.Offset = w.put("new")
		e.Name = w.putName()
		w.put(".")
		e.Variant = w.putName()
		e.Names = optional(w, "(", w.putName, ")")
	case api.ExField:
		n, at := w.named()
		e.Names, e.Offset = []string{n}, at
		w.put(".")
		e.Number = w.putNumber()
	case api.ExCall:
		e.Name, e.Offset = w.named()
		e.Names = bracketed(w, "(", w.putName, ")")
	case api.ExMethod:
		e.Name, e.Offset = w.named()
		w.put("::")
		e.Names = []string{w.putName()}
	case api.ExArena:
		e.Offset = w.put("arena")
	case api.ExAlloc:
		e.Offset = w.put("alloc")
		e.Names = []string{w.putName(), w.putName()}
	case api.ExChan:
		e.Offset = w.put("chan")
		e.Type = []api.TypeExpr{w.anyType()}
	default:
		e.Offset = w.put(prefix[e.Kind]...)
		e.Names = []string{w.putName()}
	}
	return e
}
