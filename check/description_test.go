package check

import (
	"regexp"
	"slices"
	"strings"
	"testing"

	"leasehold/api"
	"leasehold/resolve"
	"leasehold/traits"
	"leasehold/typetest"
	"leasehold/unify"
)

// This file describes Body a second time, by the letter of the chapter's tables: each row is a chain of steps that ends at the first one that fails. All types are texts, there is one substitution for all variables, and the visible variables are a list that each block goes on from.

// clerk goes through a body. The error is that of the first step that has failed; at is where the errors of the present row are found.
type clerk struct {
	p      api.Program
	g      api.Func
	params []string
	solved []api.Type
	types  []string // of the locals
	made   []int    // the offsets of what made them
	lists  []list
	err    api.Errno
	at     int
}

// list is a list Types of an instruction, with the traits that are required of its elements.
type list struct {
	at       int
	types    []string
	required []api.Bound
}

// scope is a visible variable, and those that were declared before it.
type scope struct {
	name   string
	local  int
	before *scope
}

// described returns what the result of Body has to be, as resultText writes it.
func described(s subject) string {
	p, f := s.p, s.f
	if s.fn < 0 || s.fn > len(p.Funcs)-1 {
		return resultText(api.Typed{}, api.ErrArg, 0)
	}
	g := p.Funcs[s.fn]
	if !slices.Contains(slices.Collect(seq(len(p.Modules))), g.Module) || len(p.Traits) != len(p.Homes) || len(f.Params) != g.Params || len(f.Args) != g.Arity || g.Arity != len(g.Locals) {
		return resultText(api.Typed{}, api.ErrArg, 0)
	}
	c := &clerk{p: p, g: g, params: f.Params}
	var names *scope
	for i, a := range f.Args {
		names = &scope{a.Name, i, names}
		c.types, c.made = append(c.types, text(g.Locals[i])), append(c.made, a.Offset)
	}
	body, ok := c.block(f.Body, names)
	if !ok || !c.end() {
		return resultText(api.Typed{}, c.err, c.at)
	}
	var locals []string
	for _, x := range c.types {
		locals = append(locals, c.known(x))
	}
	return strings.Join(locals, " ") + " | " + regexp.MustCompile("<[^<>]+>").ReplaceAllStringFunc(body, func(types string) string {
		var known []string
		for _, x := range strings.Fields(strings.Trim(types, "<>")) {
			known = append(known, c.known(x))
		}
		return "<" + strings.Join(known, " ") + ">"
	})
}

func seq(n int) func(func(int) bool) {
	return func(yield func(int) bool) {
		for i := 0; i < n && yield(i); i++ {
		}
	}
}

func (c *clerk) end() bool {
	for i, x := range c.types {
		if c.at = c.made[i]; !unify.Valid(c.p, c.g.Params, ty(c.known(x))) {
			return c.fail(api.ErrType)
		}
	}
	for _, l := range c.lists {
		c.at = l.at
		for _, x := range l.types {
			t := ty(c.known(x))
			if t.Kind > api.TyParam || !unify.Valid(c.p, c.g.Params, t) {
				return c.fail(api.ErrType)
			}
		}
		for _, b := range l.required {
			if b.Param < 0 || b.Param > len(l.types)-1 {
				return c.fail(api.ErrTrait)
			}
			if _, err := traits.Select(c.p, c.g.Bounds, b.Trait, ty(c.known(l.types[b.Param]))); err != api.OK {
				return c.fail(api.ErrTrait)
			}
		}
	}
	return true
}

// Steps return whether they have succeeded.

func (c *clerk) fail(err api.Errno) bool {
	c.err = err
	return false
}

func (c *clerk) need(right bool, err api.Errno) bool { return right || c.fail(err) }

// known applies the substitution to a type.
func (c *clerk) known(x string) string { return text(unify.Apply(c.solved, ty(x))) }

func (c *clerk) variable() string {
	c.solved = append(c.solved, api.Type{})
	return text(api.Type{Kind: api.TyVar, Id: len(c.solved) - 1})
}

func (c *clerk) variables(n int) []string {
	var l []string
	for len(l) < n {
		l = append(l, c.variable())
	}
	return l
}

func (c *clerk) same(a, b string) bool {
	unifier, err := unify.Unify(c.solved, ty(a), ty(b))
	if err == api.ErrArg {
		err = api.ErrLimit
	}
	if err == api.OK {
		c.solved = unifier
	}
	return err == api.OK || c.fail(err)
}

// sameAll unifies the types of locals with others.
func (c *clerk) sameAll(locals []int, types []string) bool {
	for i, a := range locals {
		if !c.same(c.types[a], types[i]) {
			return false
		}
	}
	return true
}

func (c *clerk) name(names *scope, name string, a *int) bool {
	for s := names; s != nil; s = s.before {
		if s.name == name {
			*a = s.local
			return true
		}
	}
	return c.fail(api.ErrName)
}

func (c *clerk) names(names *scope, l []string, locals *[]int) bool {
	for _, name := range l {
		var a int
		if !c.name(names, name, &a) {
			return false
		}
		*locals = append(*locals, a)
	}
	return true
}

func (c *clerk) local(x string, at int, a *int) bool {
	*a = len(c.types)
	c.types, c.made = append(c.types, x), append(c.made, at)
	return *a < 200 || c.fail(api.ErrLimit)
}

func (c *clerk) typeExpr(e api.TypeExpr, x *string) bool {
	t, err, at := resolve.Type(c.p, c.g.Module, c.params, e)
	if *x = text(t); err != api.OK {
		c.at = at
		return c.fail(err)
	}
	return true
}

// refers finds to what a local refers: to any type that is known only as far as that, through a reference of one of some Kinds.
func (c *clerk) refers(a int, kinds string, kind, inside *string) bool {
	var ok bool
	x := c.known(c.types[a])
	if *kind, *inside, ok = strings.Cut(x, "("); !ok || len(ty(x).Args) != 1 {
		return c.fail(api.ErrType)
	}
	*kind, *inside = strings.TrimRight(*kind, "-0123456789"), strings.TrimSuffix(*inside, ")")
	return c.need(slices.Contains(strings.Fields(kinds), *kind), api.ErrType)
}

// data finds the data type of a type.
func (c *clerk) data(x string, d *api.Data) bool {
	t := ty(x)
	if t.Kind != api.TyData || t.Id < 0 || t.Id > len(c.p.Datas)-1 {
		return c.fail(api.ErrType)
	}
	*d = c.p.Datas[t.Id]
	return true
}

// fields returns the types of fields with the arguments of a data type, behind references of a Kind if there is one.
func fields(l []api.Type, data, kind string) []string {
	var types []string
	for _, t := range l {
		x := text(unify.Subst(ty(data).Args, t))
		if kind != "" {
			x = kind + "(" + x + ")"
		}
		types = append(types, x)
	}
	return types
}

func (c *clerk) newLocals(types []string, at int, locals *[]int) bool {
	for _, x := range types {
		var a int
		if !c.local(x, at, &a) {
			return false
		}
		*locals = append(*locals, a)
	}
	return true
}

// ins writes an instruction with the types that are known only at the end.
func ins(op string, i api.Ins, types ...string) string {
	s := strings.TrimPrefix(insText(i), "op0")
	if len(types) > 0 {
		s += " <" + strings.Join(types, " ") + ">"
	}
	return op + s
}

func (c *clerk) block(l []api.Stmt, names *scope) (string, bool) {
	var nodes []string
	for _, s := range l {
		c.at = s.Offset
		numbers := map[int]int{api.StStore: 1, api.StSend: 1, api.StSpawn: len(s.Names)}
		types := 0
		if s.Kind == api.StLet {
			types = 1
		}
		if s.Kind < api.StLet || s.Kind > api.StSpawn || len(s.Names) != numbers[s.Kind] || len(s.Type) > types || len(s.Func) > 0 {
			return "", c.fail(api.ErrArg)
		}
		var node string
		if s.Kind == api.StLet {
			var a int
			x := ""
			if len(s.Type) == 0 {
				x = c.variable()
			} else if !c.typeExpr(s.Type[0], &x) {
				return "", false
			}
			if !c.local(x, s.Offset, &a) || !c.expression(names, s.Expr, a, &node) {
				return "", false
			}
			names = &scope{s.Name, a, names}
		} else if !c.statement(names, s, &node) {
			return "", false
		}
		nodes = append(nodes, node)
	}
	return strings.Join(nodes, "; "), true
}

func (c *clerk) statement(names *scope, s api.Stmt, node *string) (ok bool) {
	var a, b int
	var then, other string
	switch s.Kind {
	case api.StSet:
		return c.name(names, s.Name, &a) && c.expression(names, s.Expr, a, node)
	case api.StStore:
		ok = c.name(names, s.Name, &a) && c.name(names, s.Names[0], &b) && c.same(c.types[a], "Excl("+c.types[b]+")")
		*node = ins("store", api.Ins{A: a, B: b})
	case api.StIf:
		ok = c.name(names, s.Name, &a) && c.same(c.types[a], "Int") && c.inner(s.Then, names, &then) && c.inner(s.Else, names, &other)
		*node = "if" + shown("a", a) + " {" + then + "} {" + other + "}"
	case api.StWhile:
		ok = c.name(names, s.Name, &a) && c.same(c.types[a], "Int") && c.inner(s.Then, names, &then)
		*node = "while" + shown("a", a) + " {" + then + "}"
	case api.StMatch:
		ok = c.name(names, s.Name, &a) && c.match(names, s, a, node)
	case api.StReturn:
		ok = c.name(names, s.Name, &a) && c.same(c.types[a], text(c.g.Result))
		*node = "return" + shown("a", a)
	case api.StPanic:
		ok, *node = true, "panic"
	case api.StDrop:
		ok = c.name(names, s.Name, &a) && c.need(slices.Contains([]int{api.TyData, api.TyBox, api.TyParam, api.TyArena}, ty(c.known(c.types[a])).Kind), api.ErrType)
		*node = ins("drop", api.Ins{A: a})
	case api.StPrint:
		ok = c.name(names, s.Name, &a) && c.same(c.types[a], "Int")
		*node = ins("print", api.Ins{A: a})
	case api.StSend:
		ok = c.name(names, s.Name, &a) && c.name(names, s.Names[0], &b) && c.same(c.types[a], "Chan("+c.types[b]+")")
		*node = ins("send", api.Ins{A: a, B: b})
	case api.StSpawn:
		ok = c.call(names, s.Name, s.Names, "spawn", 0, new(string), node)
		i := resolve.Func(c.p, c.g.Module, s.Name)
		for k := 0; ok && k <= c.p.Funcs[i].Arity; k++ {
			t := c.p.Funcs[i].Result
			if k < c.p.Funcs[i].Arity {
				t = c.p.Funcs[i].Locals[k]
			}
			ok = c.need(t.Kind > 0 && t.Kind <= api.TyParam, api.ErrType)
		}
	}
	return ok
}

func (c *clerk) inner(l []api.Stmt, names *scope, nodes *string) (ok bool) {
	*nodes, ok = c.block(l, names)
	return ok
}

func (c *clerk) match(names *scope, s api.Stmt, a int, node *string) bool {
	data, kind := c.known(c.types[a]), ""
	if k := ty(data).Kind; (k == api.TyShared || k == api.TyExcl) && !c.refers(a, "Shared Excl", &kind, &data) {
		return false
	}
	var d api.Data
	if !c.data(data, &d) {
		return false
	}
	arms := map[string]string{}
	for _, arm := range s.Arms {
		c.at = arm.Offset
		i := slices.IndexFunc(d.Variants, func(v api.Variant) bool { return v.Name == arm.Variant })
		if i < 0 {
			return c.fail(api.ErrName)
		}
		_, twice := arms[arm.Variant]
		set := map[string]bool{}
		for _, name := range arm.Names {
			set[name] = true
		}
		var locals []int
		var body string
		ok := c.need(!twice, api.ErrTwice) &&
			c.need(len(arm.Names) == len(d.Variants[i].Fields), api.ErrType) &&
			c.need(len(set) == len(arm.Names), api.ErrTwice) &&
			c.newLocals(fields(d.Variants[i].Fields, data, kind), arm.Offset, &locals)
		if !ok {
			return false
		}
		inside := names
		for k, name := range arm.Names {
			inside = &scope{name, locals[k], inside}
		}
		if !c.inner(arm.Body, inside, &body) {
			return false
		}
		op := "open"
		if kind != "" {
			op = "split"
		}
		first := ins(op, api.Ins{A: a, B: i, Args: locals})
		arms[arm.Variant] = strings.TrimSuffix(first+"; "+body, "; ")
	}
	c.at = s.Offset
	*node = "match" + shown("a", a)
	for i, v := range d.Variants {
		body, ok := arms[v.Name]
		if first := slices.IndexFunc(d.Variants, func(w api.Variant) bool { return w.Name == v.Name }); !ok || first != i {
			return c.fail(api.ErrMatch)
		}
		*node += " {" + body + "}"
	}
	return true
}

// call checks a call, and finds its result and its instruction.
func (c *clerk) call(names *scope, name string, l []string, op string, dst int, result, node *string) bool {
	i := resolve.Func(c.p, c.g.Module, name)
	if i < 0 {
		return c.fail(api.ErrName)
	}
	f := c.p.Funcs[i]
	var locals []int
	if !c.need(len(l) == f.Arity && f.Arity <= len(f.Locals), api.ErrType) || !c.names(names, l, &locals) {
		return false
	}
	types := c.variables(f.Params)
	replaced := func(t api.Type) string {
		return text(unify.Subst(typetest.ReadAll(strings.Join(types, " ")), t))
	}
	var args []string
	for _, t := range f.Locals[:f.Arity] {
		args = append(args, replaced(t))
	}
	*result = replaced(f.Result)
	c.lists = append(c.lists, list{c.at, types, f.Bounds})
	*node = ins(op, api.Ins{Dst: dst, N: i, Args: locals}, types...)
	return c.sameAll(locals, args)
}

func (c *clerk) expression(names *scope, x api.Expr, dst int, node *string) (ok bool) {
	c.at = x.Offset
	numbers := map[int]int{api.ExNumber: 0, api.ExBinary: 2, api.ExNew: len(x.Names), api.ExCall: len(x.Names), api.ExArena: 0, api.ExAlloc: 2, api.ExChan: 0}
	number, ok := numbers[x.Kind]
	if !ok {
		number = 1
	}
	types := 0
	if x.Kind == api.ExChan {
		types = 1
	}
	if x.Kind < api.ExNumber || x.Kind > api.ExRecv || len(x.Names) != number || len(x.Type) != types {
		return c.fail(api.ErrArg)
	}
	var a, n int
	var l []int
	var t, kind string
	d := c.types[dst]
	op, i := "", api.Ins{Dst: dst}
	switch x.Kind {
	case api.ExNumber:
		ok = c.need(x.Number <= 1e9 && x.Number >= -1e9, api.ErrLimit) && c.same(d, "Int")
		op, i.N = "const", x.Number
	case api.ExBinary:
		op = map[string]string{"+": "add", "-": "sub", "*": "mul", "<": "less", "==": "equal"}[x.Op]
		ok = c.need(op != "", api.ErrArg) && c.names(names, x.Names, &l) && c.sameAll(l, []string{"Int", "Int"}) && c.same(d, "Int")
	case api.ExNew:
		return c.make(names, x, dst, node)
	case api.ExCall:
		return c.call(names, x.Name, x.Names, "call", dst, &t, node) && c.same(d, t)
	case api.ExArena:
		op, ok = "arena", c.same(d, "Arena")
	case api.ExAlloc:
		op, ok = "alloc", c.names(names, x.Names, &l) && c.same(c.types[l[0]], "Shared(Arena)") && c.same(d, "Excl("+c.types[l[1]]+")")
	case api.ExChan:
		op, ok = "chan", c.typeExpr(x.Type[0], &t) && c.same(d, "Chan("+t+")")
	case api.ExMethod:
		visible := func(home int) bool {
			return home == c.g.Module || c.g.Module < len(c.p.Uses) && slices.Contains(c.p.Uses[c.g.Module], home)
		}
		for n < len(c.p.Traits) && (c.p.Traits[n] != x.Name || !visible(c.p.Homes[n])) {
			n++
		}
		ok = c.need(n < len(c.p.Traits), api.ErrName) && c.name(names, x.Names[0], &a)
		if ok {
			t = c.variable()
			c.lists = append(c.lists, list{x.Offset, []string{t}, []api.Bound{{Trait: n}}})
		}
		*node = ins("method", api.Ins{Dst: dst, N: n, Args: []int{a}}, t)
		return ok && c.same(c.types[a], "Shared("+t+")") && c.same(d, "Int")
	case api.ExField:
		return c.field(names, x, dst, node)
	case api.ExName:
		op, ok = "take", c.name(names, x.Names[0], &a) && c.same(d, c.types[a])
	case api.ExBox:
		op, ok = "box", c.name(names, x.Names[0], &a) && c.same(d, "Box("+c.types[a]+")")
	case api.ExUnbox:
		op, ok = "unbox", c.name(names, x.Names[0], &a) && c.same(c.types[a], "Box("+d+")")
	case api.ExRecv:
		op, ok = "recv", c.name(names, x.Names[0], &a) && c.same(c.types[a], "Chan("+d+")")
	case api.ExShare:
		op, ok = "loan", c.name(names, x.Names[0], &a) && c.same(d, "Shared("+c.types[a]+")")
	case api.ExLend:
		op, ok = "loan", c.name(names, x.Names[0], &a) && c.same(d, "Excl("+c.types[a]+")")
	case api.ExReShare:
		op, ok = "re", c.name(names, x.Names[0], &a) && c.refers(a, "Shared Excl", &kind, &t) && c.same(d, "Shared("+t+")")
	case api.ExReLend:
		op, ok = "re", c.name(names, x.Names[0], &a) && c.refers(a, "Excl", &kind, &t) && c.same(d, "Excl("+t+")")
	case api.ExInShare, api.ExInLend:
		out, kinds := "Shared", "Shared Excl"
		if x.Kind == api.ExInLend {
			out, kinds = "Excl", "Excl"
		}
		u := c.variable()
		op, ok = "in", c.name(names, x.Names[0], &a) && c.refers(a, kinds, &kind, &t) && c.same(t, "Box("+u+")") && c.same(d, out+"("+u+")")
	case api.ExLoad:
		op, ok = "load", c.name(names, x.Names[0], &a) && c.refers(a, "Shared Excl", &kind, &t) && c.need(ty(t).Kind == api.TyInt || ty(t).Kind == api.TyChan, api.ErrType) && c.same(d, t)
	}
	if i.A = a; len(l) == 2 {
		i.A, i.B = l[0], l[1]
	}
	*node = ins(op, i)
	return ok
}

func (c *clerk) make(names *scope, x api.Expr, dst int, node *string) bool {
	n := resolve.Data(c.p, c.g.Module, x.Name)
	if n < 0 {
		return c.fail(api.ErrName)
	}
	b := slices.IndexFunc(c.p.Datas[n].Variants, func(v api.Variant) bool { return v.Name == x.Variant })
	if b < 0 {
		return c.fail(api.ErrName)
	}
	l := c.p.Datas[n].Variants[b].Fields
	var locals []int
	if !c.need(len(l) == len(x.Names), api.ErrType) || !c.names(names, x.Names, &locals) {
		return false
	}
	types := c.variables(c.p.Datas[n].Params)
	c.lists = append(c.lists, list{c.at, types, nil})
	data := typetest.Text(api.Type{Kind: api.TyData, Id: n, Args: typetest.ReadAll(strings.Join(types, " "))})
	*node = ins("make", api.Ins{Dst: dst, N: n, B: b, Args: locals}, types...)
	return c.same(c.types[dst], data) && c.sameAll(locals, fields(l, data, ""))
}

func (c *clerk) field(names *scope, x api.Expr, dst int, node *string) bool {
	var a int
	var t, kind string
	var d api.Data
	if !c.name(names, x.Names[0], &a) || !c.refers(a, "Shared Excl", &kind, &t) || !c.data(t, &d) {
		return false
	}
	if len(d.Variants) != 1 || x.Number < 0 || x.Number > len(d.Variants[0].Fields)-1 {
		return c.fail(api.ErrType)
	}
	var locals []int
	if !c.newLocals(fields(d.Variants[0].Fields, t, kind), x.Offset, &locals) {
		return false
	}
	*node = ins("split", api.Ins{A: a, Args: locals}) + "; " + ins("take", api.Ins{Dst: dst, A: locals[x.Number]})
	return c.same(c.types[dst], c.types[locals[x.Number]])
}

// checkBody checks the result of Body against the description, and returns it as a text.
func checkBody(t testing.TB, s subject) string {
	t.Helper()
	got := resultText(Body(s.p, s.fn, s.f))
	if want := described(s); got != want {
		t.Errorf("the function %d, declared as %+v\nin %+v\n got %s\nwant %s", s.fn, s.f, s.p, got, want)
	}
	return got
}
