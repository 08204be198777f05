package check

import (
	"fmt"
	"slices"
	"strconv"
	"strings"
	"testing"

	"leasehold/api"
)

// few checks that each outcome of a test was there often enough.
func few[K comparable](t *testing.T, count map[K]int, least int, outcomes ...K) {
	t.Helper()
	for _, x := range outcomes {
		if count[x] < least {
			t.Errorf("only %d cases of %v", count[x], x)
		}
	}
}

// outcome returns the error of a result, or OK.
func outcome(result string) string {
	if !strings.HasPrefix(result, "!") {
		return "OK"
	}
	word, _, _ := strings.Cut(result, " ")
	return word
}

// offsets returns all offsets of a declaration.
func offsets(f api.FuncDef) map[int]bool {
	found := map[int]bool{f.Offset: true}
	var typeExpr func(e api.TypeExpr)
	typeExpr = func(e api.TypeExpr) {
		found[e.Offset] = true
		for _, a := range e.Args {
			typeExpr(a)
		}
	}
	for _, a := range f.Args {
		found[a.Offset] = true
	}
	copied(f.Body, func(s *api.Stmt) {
		found[s.Offset], found[s.Expr.Offset] = true, true
		for _, e := range slices.Concat(s.Type, s.Expr.Type) {
			typeExpr(e)
		}
	}, func(a *api.ArmDef) { found[a.Offset] = true })
	return found
}

// checkPromises checks P7.1 to P7.7 for a function, and returns its result.
func checkPromises(t testing.TB, m maker, s subject) string {
	t.Helper()
	before := fmt.Sprintf("%+v", s)
	got := checkBody(t, s)
	typed, err, at := Body(s.p, s.fn, s.f)
	if fmt.Sprintf("%+v", s) != before {
		t.Fatalf("the arguments were changed: %s", before)
	}
	if err != api.OK {
		if err != api.ErrArg && !offsets(s.f)[at] {
			t.Errorf("%s is no offset of %+v", got, s.f)
		}
		return got
	}
	if wrong := fault(s.p, s.fn, typed); wrong != "" {
		t.Errorf("%s\nof %+v is not valid: %s", got, s.f, wrong)
	}
	checkSignature(t, s, typed)
	if other := checkBody(t, m.renamed(s)); other != got {
		t.Errorf("%+v\nwith other names\n got %s\nwant %s", s.f, other, got)
	}
	if other := checkBody(t, m.annotated(s, typed)); other != got {
		t.Errorf("%+v\nannotated\n got %s\nwant %s", m.annotated(s, typed).f, other, got)
	}
	checkDead(t, m, s, typed)
	return got
}

// checkSignature checks P7.3.
func checkSignature(t testing.TB, s subject, typed api.Typed) {
	t.Helper()
	g := s.p.Funcs[s.fn]
	for i := range g.Arity {
		if text(typed.Locals[i]) != text(g.Locals[i]) {
			t.Errorf("the argument %d of %+v: %s", i, s.f, text(typed.Locals[i]))
		}
	}
	var look func(l []api.Node)
	look = func(l []api.Node) {
		for _, n := range l {
			if n.Kind == api.NdReturn && text(typed.Locals[n.A]) != text(g.Result) {
				t.Errorf("%+v returns %s", s.f, text(typed.Locals[n.A]))
			}
			for _, inner := range append([][]api.Node{n.Then, n.Else}, n.Arms...) {
				look(inner)
			}
		}
	}
	look(typed.Body)
}

// renamed gives many of the variables other names, each one its own, wherever they are declared and meant.
func (m maker) renamed(s subject) subject {
	type scope map[string]string
	fresh := 0
	var visible scope
	declare := func(name *string) {
		old := *name
		if visible[old] = old; m.IntN(3) > 0 {
			fresh++
			*name = "new" + strconv.Itoa(fresh)
			visible[old] = *name
		}
	}
	var block func(l []api.Stmt, inside scope) []api.Stmt
	block = func(l []api.Stmt, inside scope) []api.Stmt {
		around := visible
		visible = scope{}
		for old, name := range inside {
			visible[old] = name
		}
		l = slices.Clone(l)
		for i := range l {
			x := &l[i]
			meant := func(name string) string {
				if other, ok := visible[name]; ok {
					return other
				}
				return name
			}
			all := func(names []string) []string {
				names = slices.Clone(names)
				for k := range names {
					names[k] = meant(names[k])
				}
				return names
			}
			x.Names, x.Expr.Names = all(x.Names), all(x.Expr.Names)
			if x.Kind != api.StLet && x.Kind != api.StSpawn && x.Kind != api.StPanic {
				x.Name = meant(x.Name)
			}
			x.Then, x.Else, x.Arms = block(x.Then, visible), block(x.Else, visible), slices.Clone(x.Arms)
			for k := range x.Arms {
				arm := &x.Arms[k]
				arm.Names = slices.Clone(arm.Names)
				before := visible
				visible = scope{}
				for old, name := range before {
					visible[old] = name
				}
				for j := range arm.Names {
					declare(&arm.Names[j])
				}
				arm.Body = block(arm.Body, visible)
				visible = before
			}
			if x.Kind == api.StLet {
				declare(&x.Name)
			}
		}
		visible = around
		return l
	}
	visible = scope{}
	s.f.Args = slices.Clone(s.f.Args)
	for i := range s.f.Args {
		declare(&s.f.Args[i].Name)
	}
	return s.with(block(s.f.Body, visible))
}

// annotated writes the types that were inferred as annotations, where there is none; it leaves out some of them.
func (m maker) annotated(s subject, typed api.Typed) subject {
	made := map[int]int{} // the local of a let, by its Offset
	var look func(l []api.Stmt, nodes []api.Node)
	look = func(l []api.Stmt, nodes []api.Node) {
		for _, x := range l {
			if (x.Kind == api.StLet || x.Kind == api.StSet) && x.Expr.Kind == api.ExField {
				nodes = nodes[1:] // the first one of its two
			}
			node := nodes[0]
			nodes = nodes[1:]
			switch x.Kind {
			case api.StLet:
				made[x.Offset] = node.Ins.Dst
			case api.StIf:
				look(x.Then, node.Then)
				look(x.Else, node.Else)
			case api.StWhile:
				look(x.Then, node.Then)
			case api.StMatch:
				d, _ := (&inspector{p: s.p}).data(text(typed.Locals[node.A]))
				for _, a := range x.Arms {
					i := slices.IndexFunc(d.Variants, func(v api.Variant) bool { return v.Name == a.Variant })
					look(a.Body, node.Arms[i][1:])
				}
			}
		}
	}
	look(s.f.Body, typed.Body)
	return s.with(copied(s.f.Body, func(x *api.Stmt) {
		if local, ok := made[x.Offset]; ok && x.Kind == api.StLet && len(x.Type) == 0 && m.IntN(4) > 0 {
			x.Type = []api.TypeExpr{s.written(typed.Locals[local])}
		}
	}, func(*api.ArmDef) {}))
}

// written writes a type as it stands in a source.
func (s subject) written(t api.Type) api.TypeExpr {
	e := api.TypeExpr{Name: map[int]string{api.TyInt: "Int", api.TyBox: "Box", api.TyChan: "Chan", api.TyArena: "Arena", api.TyShared: "&", api.TyExcl: "&!"}[t.Kind]}
	switch t.Kind {
	case api.TyData:
		e.Name = s.p.Datas[t.Id].Name
	case api.TyParam:
		e.Name = s.f.Params[t.Id]
	}
	for _, a := range t.Args {
		e.Args = append(e.Args, s.written(a))
	}
	return e
}

// checkDead checks P7.6: a let after a return at the end.
func checkDead(t testing.TB, m maker, s subject, typed api.Typed) {
	t.Helper()
	n := len(s.f.Body)
	if n == 0 || s.f.Body[n-1].Kind != api.StReturn || len(typed.Locals) > 190 {
		return
	}
	for range 3 {
		x := m.statement([]string{s.f.Body[n-1].Name})
		if x.Kind != api.StLet {
			x = api.Stmt{Kind: api.StLet, Name: "a", Expr: api.Expr{Kind: api.ExNumber, Number: 3}}
		}
		longer, err, _ := Body(s.p, s.fn, s.with(append(slices.Clone(s.f.Body), x)).f)
		if err != api.OK {
			continue
		}
		more := 1
		if x.Expr.Kind == api.ExField {
			more = len(longer.Locals) - len(typed.Locals)
		}
		if len(longer.Locals) != len(typed.Locals)+more {
			t.Errorf("%+v: %d locals with %+v", s.f, len(longer.Locals), x)
		}
		longer.Locals, longer.Body = longer.Locals[:len(typed.Locals)], longer.Body[:len(typed.Body)]
		if typedText(longer) != typedText(typed) {
			t.Errorf("%s\nbefore a let, but %s", typedText(longer), typedText(typed))
		}
	}
}

// P7.1 to P7.7 for random functions, and for those that differ from them in a few parts.
func TestRandomBodies(t *testing.T) {
	t.Parallel()
	m := seeded(1)
	count, ops := map[string]int{}, map[string]int{}
	note := func(result string) {
		count[outcome(result)]++
		if outcome(result) == "OK" {
			for _, word := range strings.Fields(result) {
				ops[strings.Trim(word, "{};")]++
			}
		}
	}
	for range 400 {
		s := m.body(m.subject(t), 3+m.IntN(16))
		if last := m.returned(s); m.IntN(2) == 0 && last != "" {
			s = numbered(s.with(append(slices.Clone(s.f.Body), api.Stmt{Kind: api.StReturn, Name: last})))
		}
		note(checkPromises(t, m, s))
		for range 20 {
			other := s
			for range 1 + m.IntN(2) {
				other = m.changed(other)
			}
			note(checkPromises(t, m, other))
		}
	}
	few(t, count, 25, "OK", "!arg", "!limit", "!name", "!type", "!trait", "!twice", "!match")
	few(t, ops, 15, opNames()[1:27]...)
	few(t, ops, 50, "if", "while", "match", "return", "panic")
}

// returned picks a variable at the end of a body that has the type of the result, if there is one.
func (m maker) returned(s subject) string {
	for _, name := range strings.Fields("a b c d e g h") {
		s := s.with(append(slices.Clone(s.f.Body), api.Stmt{Kind: api.StReturn, Name: name}, sentinel()))
		if _, _, at := Body(s.p, s.fn, s.f); at == -7 {
			return name
		}
	}
	return ""
}
