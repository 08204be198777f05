package check

import (
	"cmp"
	"fmt"
	"math"
	"reflect"
	"slices"
	"strconv"
	"strings"
	"testing"
	"time"

	"leasehold/api"
	"leasehold/typetest"
)

// anyType makes a type of any parts.
func (m maker) anyType(levels int) api.Type {
	t := api.Type{Kind: m.number(-1, 0, 1, 1, 2, 2, 3, 3, 4, 5, 5, 6, 7, 7, 8, 8, 9, 10, math.MinInt, math.MaxInt), Id: m.number(0, 0, 0, 0, m.anyNumber())}
	for range m.IntN(3) {
		if levels > 1 {
			t.Args = append(t.Args, m.anyType(levels-1))
		}
	}
	return t
}

func (m maker) number(of ...int) int { return of[m.IntN(len(of))] }

func (m maker) anyNumber() int {
	return m.number(0, 0, 1, 1, 2, 2, 3, 4, 5, 6, 7, 13, 14, -1, math.MinInt)
}

// anyProgram changes some parts of the program of a function to any others.
func (m maker) anyProgram(p api.Program) api.Program {
	p.Datas, p.Funcs, p.Impls = slices.Clone(p.Datas), slices.Clone(p.Funcs), slices.Clone(p.Impls)
	p.Modules, p.Uses, p.Traits, p.Homes = slices.Clone(p.Modules), slices.Clone(p.Uses), slices.Clone(p.Traits), slices.Clone(p.Homes)
	types := func(l []api.Type) []api.Type {
		l = slices.Clone(l)
		for i := range l {
			if m.IntN(2) == 0 {
				l[i] = m.anyType(3)
			}
		}
		return l
	}
	for range m.IntN(4) {
		d, f := &p.Datas[m.IntN(len(p.Datas))], &p.Funcs[m.number(13, m.IntN(14))]
		switch m.IntN(16) {
		case 0:
			d.Params = m.anyNumber()
		case 1:
			d.Variants = append(slices.Clone(d.Variants), api.Variant{Name: "left", Fields: types(make([]api.Type, m.IntN(3)))})
		case 2, 3:
			d.Variants = slices.Clone(d.Variants)
			for i := range d.Variants {
				d.Variants[i].Fields = types(d.Variants[i].Fields)
			}
		case 4:
			d.Variants = nil
		case 5:
			f.Params = m.anyNumber()
		case 6:
			f.Bounds = append(slices.Clone(f.Bounds), api.Bound{Param: m.anyNumber(), Trait: m.anyNumber()})
		case 7, 8, 9:
			f.Locals = types(f.Locals)
		case 10:
			f.Result = m.anyType(3)
		case 11:
			f.Arity = m.anyNumber()
		case 12:
			p.Uses = p.Uses[:m.IntN(len(p.Uses)+1)]
		case 13:
			f.Module, d.Module = m.anyNumber(), m.anyNumber()
		case 14:
			p.Homes[m.IntN(len(p.Homes))] = m.anyNumber()
		case 15:
			i := &p.Impls[m.IntN(len(p.Impls))]
			i.Type, i.Params, i.Trait = m.anyType(3), m.anyNumber(), m.anyNumber()
		}
	}
	return p
}

// P0.1: any programs; the description says what comes of them.
func TestAnyPrograms(t *testing.T) {
	t.Parallel()
	m := seeded(3)
	count := map[string]int{}
	for range 250 {
		s := m.body(m.subject(t), 3+m.IntN(12))
		for range 40 {
			other := s
			other.p = m.anyProgram(s.p)
			if m.IntN(2) == 0 {
				other = m.changed(other)
			}
			if m.IntN(40) == 0 {
				other.fn = m.anyNumber()
			}
			before := fmt.Sprintf("%+v", other)
			count[outcome(checkBody(t, other))]++
			if fmt.Sprintf("%+v", other) != before {
				t.Fatalf("the arguments were changed: %s", before)
			}
		}
	}
	few(t, count, 25, "OK", "!arg", "!limit", "!name", "!type", "!match")
}

// Rule: a result shares no memory with the arguments, and none of its lists shares memory with another one.
func TestMemory(t *testing.T) {
	s := read(t, `fn f<T>(a: &!Pair, l: List<Box<Int>>, q: Map<T, Box<T>>) -> List<Box<Int>> {
	let x = a.1; let y = &in x; let n = *y;
	while n { n = n - n; let l = id(l); let l = id(l); spawn id(l); }
	match l { cons(h, r) { let h: Box<Int> = h; let k = new List.cons(h, r); return k; } nil { let z = id(q); let b = box l; return l; } }
	match q { map(k, c) { let v = recv c; let w = recv c; let p = new Map.map(k, c); } }
}`)
	arguments := fmt.Sprintf("%+v", s)
	typed, err, at := Body(s.p, s.fn, s.f)
	if err != api.OK {
		t.Fatal(err, at)
	}
	before := typedText(typed)
	n := 1000
	eachNumber(&typed, func(x *int) {
		n++
		*x = n
	})
	n = 1000
	eachNumber(&typed, func(x *int) {
		if n++; *x != n {
			t.Fatalf("two numbers share memory: %d, not %d", *x, n)
		}
	})
	if got := fmt.Sprintf("%+v", s); got != arguments {
		t.Errorf("the arguments became %s", got)
	}
	again, _, _ := Body(s.p, s.fn, s.f)
	if typedText(again) != before {
		t.Errorf("got %s\nwant %s", typedText(again), before)
	}
	checkApart(t, again)
}

// checkApart checks that no list of a result has room in which another one is.
func checkApart(t *testing.T, typed api.Typed) {
	t.Helper()
	type span struct{ from, to uintptr }
	var spans []span
	note := func(list any) {
		if v := reflect.ValueOf(list); v.Cap() > 0 {
			spans = append(spans, span{v.Pointer(), v.Pointer() + uintptr(v.Cap())*v.Type().Elem().Size()})
		}
	}
	var types func(l []api.Type)
	types = func(l []api.Type) {
		note(l)
		for _, t := range l {
			types(t.Args)
		}
	}
	var nodes func(l []api.Node)
	nodes = func(l []api.Node) {
		note(l)
		for _, n := range l {
			note(n.Ins.Args)
			types(n.Ins.Types)
			nodes(n.Then)
			nodes(n.Else)
			note(n.Arms)
			for _, arm := range n.Arms {
				nodes(arm)
			}
		}
	}
	types(typed.Locals)
	nodes(typed.Body)
	slices.SortFunc(spans, func(a, b span) int { return cmp.Compare(a.from, b.from) })
	for i := 1; i < len(spans); i++ {
		if spans[i].from < spans[i-1].to {
			t.Errorf("lists of %s share memory", typedText(typed))
		}
	}
	if len(spans) < 40 {
		t.Errorf("only %d lists", len(spans))
	}
}

// soon fails if a check takes far longer than it has to.
func soon(t *testing.T, name string, check func()) {
	t.Helper()
	start := time.Now()
	check()
	if d := time.Since(start); d > 20*time.Second {
		t.Errorf("%s takes %v", name, d)
	}
}

// P0.1: blocks in blocks, as many as a program can have levels.
func TestDeepBlocks(t *testing.T) {
	base := read(t, "fn f(a: Int, b: Two) -> Int { }")
	for _, inner := range [][]api.Stmt{nil, {{Kind: api.StPrint, Name: "nope", Offset: 5}}} {
		body := inner
		for i := range 60000 {
			switch i % 4 {
			case 0:
				body = []api.Stmt{{Kind: api.StIf, Name: "a", Then: body}}
			case 1:
				body = []api.Stmt{{Kind: api.StIf, Name: "a", Else: body}}
			case 2:
				body = []api.Stmt{{Kind: api.StWhile, Name: "a", Then: body}}
			case 3:
				body = []api.Stmt{{Kind: api.StMatch, Name: "b", Arms: []api.ArmDef{{Variant: "right", Body: body}, {Variant: "left", Names: []string{"x"}}}}}
				if i > 600 {
					body = body[0].Arms[0].Body // there can be only 200 locals
				}
			}
		}
		typed, err, at := Body(base.p, base.fn, base.with(body).f)
		if inner == nil && (err != api.OK || len(typed.Locals) != 152) || inner != nil && (err != api.ErrName || at != 5) {
			t.Errorf("error %d at %d, %d locals", err, at, len(typed.Locals))
		}
	}
}

// P0.1: very many statements, of which each uses a generic function or data type, whose types are found or not.
func TestLongBodies(t *testing.T) {
	base := read(t, "fn f(a: Int, b: List<Int>, d: Box<Pair>, p: Pair) -> Int { }")
	set := func(name string, x api.Expr) api.Stmt {
		x.Offset = 5
		return api.Stmt{Kind: api.StSet, Name: name, Expr: x}
	}
	for name, l := range map[string][]api.Stmt{
		"OK":     {set("a", api.Expr{Kind: api.ExCall, Name: "id", Names: []string{"a"}}), set("b", api.Expr{Kind: api.ExNew, Name: "List", Variant: "nil"}), set("p", api.Expr{Kind: api.ExCall, Name: "both", Names: []string{"a", "d"}})},
		"!type":  {set("a", api.Expr{Kind: api.ExCall, Name: "none"})},
		"!trait": {set("a", api.Expr{Kind: api.ExCall, Name: "id", Names: []string{"a"}}), set("a", api.Expr{Kind: api.ExCall, Name: "need", Names: []string{"a"}})},
	} {
		soon(t, name, func() {
			s := base.with(slices.Repeat(l, 60000))
			typed, err, at := Body(s.p, s.fn, s.f)
			if want := name; errorName(err) != strings.TrimPrefix(want, "OK") || err != api.OK && at != 5 || err == api.OK && len(typed.Body) != 180000 {
				t.Errorf("%s: error %d at %d, %d nodes", name, err, at, len(typed.Body))
			}
		})
	}
}

// P0.1: very many inference variables that all become equal, and that are known only at the end, or never.
func TestUnknownForLong(t *testing.T) {
	base := read(t, "fn f(a: Int) -> Int { }")
	made := api.Stmt{Kind: api.StLet, Name: "l", Expr: api.Expr{Kind: api.ExNew, Name: "List", Variant: "nil"}, Offset: 3}
	again := api.Stmt{Kind: api.StSet, Name: "l", Expr: api.Expr{Kind: api.ExCall, Name: "id", Names: []string{"l"}}}
	known := api.Stmt{Kind: api.StLet, Name: "m", Type: []api.TypeExpr{{Name: "List", Args: []api.TypeExpr{{Name: "Int"}}}}, Expr: api.Expr{Kind: api.ExName, Names: []string{"l"}}}
	body := append([]api.Stmt{made}, slices.Repeat([]api.Stmt{again}, 60000)...)
	soon(t, "unknown", func() {
		if _, err, at := Body(base.p, base.fn, base.with(body).f); err != api.ErrType || at != 3 {
			t.Errorf("error %d at %d", err, at)
		}
	})
	soon(t, "known at last", func() {
		typed, err, at := Body(base.p, base.fn, base.with(append(body, known)).f)
		if err != api.OK || text(typed.Body[60000].Ins.Types[0]) != "D1(Int)" {
			t.Errorf("error %d at %d", err, at)
		}
	})
}

// P0.1: the greatest types that a source can have: each level has four times as many parts.
func TestGreatTypes(t *testing.T) {
	function := "fn f(x0: Int) -> Int { "
	for i := range 7 {
		x := "x" + strconv.Itoa(i)
		function += "let x" + strconv.Itoa(i+1) + " = new Quad.quad(" + strings.Join(slices.Repeat([]string{x}, 4), ", ") + "); "
	}
	s := read(t, function+strings.Repeat("let x7 = id(x7); ", 40)+"let n = @new Quad.quad(x0, x0, x0, x7); }")
	soon(t, "great types", func() {
		if _, err, at := Body(s.p, s.fn, s.f); err != api.ErrLimit || at != s.mark {
			t.Errorf("error %d at %d", err, at)
		}
	})
	s.f.Body = s.f.Body[:len(s.f.Body)-1]
	soon(t, "great types", func() {
		typed, err, at := Body(s.p, s.fn, s.f)
		if err != api.OK || typetest.Nesting(text(typed.Locals[47])) != 8 {
			t.Errorf("error %d at %d", err, at)
		}
	})
}

// P0.1: numbers of parameters for which there is no memory, and arguments of which there are very many.
func TestGreatNumbers(t *testing.T) {
	base := read(t, "fn f(a: Int) -> Int { let c: Int = id(a); }")
	for _, n := range []int{1 << 21, 1 << 40, math.MaxInt} {
		s := base
		s.p.Funcs = slices.Clone(base.p.Funcs)
		s.p.Funcs[5].Params = n
		if _, err, at := Body(s.p, s.fn, s.f); err != api.ErrLimit || at != s.f.Body[0].Expr.Offset {
			t.Errorf("error %d at %d", err, at)
		}
	}
	s := base
	s.p.Funcs = slices.Clone(base.p.Funcs)
	s.p.Funcs[5].Params = 100000
	if _, err, at := Body(s.p, s.fn, s.f); err != api.ErrType || at != s.f.Body[0].Expr.Offset {
		t.Errorf("error %d at %d", err, at)
	}
	s.p.Funcs[5].Params = 1
	s.p.Funcs[s.fn].Arity, s.p.Funcs[s.fn].Locals = 100000, slices.Repeat([]api.Type{integer()}, 100000)
	s.f.Args = slices.Repeat([]api.ArgDef{{Name: "a", Offset: 9}}, 100000)
	if _, err, at := Body(s.p, s.fn, s.f); err != api.ErrLimit || at != s.f.Body[0].Offset {
		t.Errorf("error %d at %d", err, at)
	}
	s.f.Body = []api.Stmt{{Kind: api.StReturn, Name: "a"}}
	if typed, err, at := Body(s.p, s.fn, s.f); err != api.OK || len(typed.Locals) != 100000 || typed.Body[0].A != 99999 {
		t.Errorf("error %d at %d", err, at)
	}
}

// FuzzBody changes bodies of random functions, and checks all promises.
func FuzzBody(f *testing.F) {
	f.Add(uint64(0), 5, 3)
	f.Add(uint64(1), 12, 0)
	f.Fuzz(func(t *testing.T, seed uint64, statements, changes int) {
		m := seeded(seed)
		s := m.body(m.subject(t), statements%20)
		for range changes % 5 {
			s = m.changed(s)
		}
		checkPromises(t, m, s)
		s.p = m.anyProgram(s.p)
		checkBody(t, s)
	})
}
