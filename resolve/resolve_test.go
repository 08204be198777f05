package resolve

import (
	"reflect"
	"slices"
	"strconv"
	"strings"
	"testing"

	"leasehold/api"
	"leasehold/parser"
)

// lib is a module that other ones use.
const lib = `module lib;
data List<T> { nil, cons(T, Box<List<T>>) };
data Pair { pair(Int, List<Int>) } drop 3;
trait Size; trait Show;
fn size<T>(x: &List<T>) -> Int where T: Size { }
fn number(x: &Int) -> Int { }
impl<T> Size for List<T> where T: Size = size;
impl Size for Int = number;
`

// read reads modules from texts. A mark @ in one of them is left out; it says where an error has to be found.
func read(t *testing.T, texts ...string) ([]api.Module, api.Where) {
	t.Helper()
	var l []api.Module
	var mark api.Where
	for i, text := range texts {
		if at := strings.Index(text, "@"); at >= 0 {
			mark = api.Where{Module: i, Offset: at}
		}
		m, err, at := parser.Parse(strings.Replace(text, "@", "", 1))
		if err != api.OK {
			t.Fatalf("%s\nis no module: error %d at %d", text, err, at)
		}
		l = append(l, m)
	}
	return l, mark
}

// finds checks the error of modules, or OK, at the mark.
func finds(t *testing.T, want api.Errno, texts ...string) {
	t.Helper()
	l, mark := read(t, texts...)
	if got := checkTables(t, l); got.err != want || got.where != mark {
		t.Errorf("%s\nerror %d at %v, want %d at %v", strings.Join(texts, "\n"), got.err, got.where, want, mark)
	}
}

func program(t *testing.T, texts ...string) api.Program {
	t.Helper()
	l, _ := read(t, texts...)
	p, err, where := Tables(l)
	if err != api.OK {
		t.Fatalf("%s\nerror %d at %v", strings.Join(texts, "\n"), err, where)
	}
	return p
}

func expression(name string, args ...api.TypeExpr) api.TypeExpr {
	return api.TypeExpr{Name: name, Args: args}
}

func boxes(n int, e api.TypeExpr) api.TypeExpr {
	for range n {
		e = expression("Box", e)
	}
	return e
}

// P4.1: the chapter's examples.
func TestExamples(t *testing.T) {
	p := program(t, "module m; data List<T> { nil, cons(T, Box<List<T>>) };")
	param := api.Type{Kind: api.TyParam}
	list := api.Type{Kind: api.TyData, Args: []api.Type{param}}
	want := []api.Data{{Name: "List", Params: 1, Variants: []api.Variant{{Name: "nil"}, {Name: "cons", Fields: []api.Type{param, {Kind: api.TyBox, Args: []api.Type{list}}}}}}}
	if !reflect.DeepEqual(p.Datas, want) {
		t.Errorf("%+v", p.Datas)
	}
	finds(t, api.ErrCycle, "module m; @data A { a(A) };")
	finds(t, api.ErrType, "module m; data A { a(@&Int) };")
	finds(t, api.ErrType, "module m; data A { a(@A<A>) };")
	box := api.Module{Name: "m", Datas: []api.DataDef{{Name: "A", Variants: []api.VariantDef{{Name: "a", Fields: []api.TypeExpr{{Name: "Box", Args: []api.TypeExpr{expression("A"), expression("A")}, Offset: 7}}}}}}}
	if _, err, where := Tables([]api.Module{box}); err != api.ErrType || where != (api.Where{Offset: 7}) {
		t.Errorf("Box<A, A>: error %d at %v", err, where)
	}
	p = program(t, "module m; fn f(x: & Box<Int>) -> Int { }")
	number := api.Type{Kind: api.TyInt}
	arg := api.Type{Kind: api.TyShared, Args: []api.Type{{Kind: api.TyBox, Args: []api.Type{number}}}}
	if f := []api.Func{{Name: "f", Arity: 1, Result: number, Locals: []api.Type{arg}}}; !reflect.DeepEqual(p.Funcs, f) {
		t.Errorf("%+v", p.Funcs)
	}
}

// P4.1: all fields of a program of two modules.
func TestAllFields(t *testing.T) {
	p := program(t, lib, `module b; use lib;
trait Eq;
data Both<A, B> { both(B, A), none } drop panic;
impl<U, V> Eq for Both<U, V> where V: Size, U: Eq, U: Show = equal;
fn equal<X, Y>(x: &Both<X, Y>) -> Int where X: Eq, Y: Size { }
fn main() -> Int { }
fn rest<T>(a: Arena, b: &Arena, c: &!Both<T, Int>, d: Chan<T>) -> &!Pair { }`)
	number, first, second := api.Type{Kind: api.TyInt}, api.Type{Kind: api.TyParam}, api.Type{Kind: api.TyParam, Id: 1}
	of := func(kind, id int, args ...api.Type) api.Type { return api.Type{Kind: kind, Id: id, Args: args} }
	list, both := of(api.TyData, 0, first), of(api.TyData, 2, first, second)
	want := api.Program{
		Modules: []string{"lib", "b"},
		Uses:    [][]int{nil, {0}},
		Datas: []api.Data{
			{Name: "List", Params: 1, Variants: []api.Variant{{Name: "nil"}, {Name: "cons", Fields: []api.Type{first, of(api.TyBox, 0, list)}}}},
			{Name: "Pair", Drop: 3, Variants: []api.Variant{{Name: "pair", Fields: []api.Type{number, of(api.TyData, 0, number)}}}},
			{Name: "Both", Module: 1, Params: 2, Drop: -1, Variants: []api.Variant{{Name: "both", Fields: []api.Type{second, first}}, {Name: "none"}}},
		},
		Traits: []string{"Size", "Show", "Eq"},
		Homes:  []int{0, 0, 1},
		Impls: []api.Impl{
			{Params: 1, Bounds: []api.Bound{{}}, Type: list},
			{Type: number, Func: 1},
			{Trait: 2, Module: 1, Params: 2, Bounds: []api.Bound{{Param: 1}, {Trait: 2}, {Trait: 1}}, Type: both, Func: 2},
		},
		Funcs: []api.Func{
			{Name: "size", Params: 1, Bounds: []api.Bound{{}}, Arity: 1, Result: number, Locals: []api.Type{of(api.TyShared, 0, list)}},
			{Name: "number", Arity: 1, Result: number, Locals: []api.Type{of(api.TyShared, 0, number)}},
			{Name: "equal", Module: 1, Params: 2, Bounds: []api.Bound{{Trait: 2}, {Param: 1}}, Arity: 1, Result: number, Locals: []api.Type{of(api.TyShared, 0, both)}},
			{Name: "main", Module: 1, Result: number},
			{Name: "rest", Module: 1, Params: 1, Arity: 4, Result: of(api.TyExcl, 0, of(api.TyData, 1)),
				Locals: []api.Type{{Kind: api.TyArena}, of(api.TyShared, 0, api.Type{Kind: api.TyArena}), of(api.TyExcl, 0, of(api.TyData, 2, first, number)), of(api.TyChan, 0, first)}},
		},
		Main: 3,
	}
	if !reflect.DeepEqual(p, want) {
		t.Errorf("%+v\nwant\n%+v", p, want)
	}
}

// P4.1, step 1: names of modules, what they use, and clashes of what these declare.
func TestModules(t *testing.T) {
	finds(t, api.OK)
	finds(t, api.OK, "module a;", "module b; use a;", "module c; use b; use a;")
	finds(t, api.ErrTwice, "module a;", "@module a;")
	finds(t, api.ErrTwice, "module a;", "module b;", "@module a; use nope;")
	finds(t, api.ErrName, "@module a; use nope;")
	finds(t, api.ErrName, "@module a; use a;")
	finds(t, api.ErrName, "@module a; use b;", "module b;")
	finds(t, api.ErrTwice, "module a;", "@module b; use a; use a;")
	finds(t, api.ErrTwice, "module a;", "@module b; use a; use a; use nope;")
	finds(t, api.ErrName, "module a;", "@module b; use a; use nope; use a;")
	finds(t, api.ErrName, "module a;", "@module b; use a; use nope; use nope;")
	for _, item := range []string{"data X { u };", "trait X;", "fn X() -> Int { }"} {
		finds(t, api.ErrTwice, "module a; "+item, "module b; "+item, "@module c; use a; use b;")
		finds(t, api.ErrTwice, "module a; "+item, "module b;", "module c; "+item, "@module d; use c; use b; use a;")
		finds(t, api.ErrName, "module a; "+item, "module b; "+item, "@module c; use a; use b; use nope;")
		finds(t, api.ErrTwice, "module a; "+item, "module b; "+item, "@module c; use a; use b; data A { a(A) }; fn f() -> Nope { }")
		finds(t, api.OK, "module a; "+item, "module b; "+item, "module c; use a; ", "module d; use b; use c;")
		finds(t, api.ErrTwice, "module a; "+item, "module b; use a; @"+item)
		finds(t, api.ErrTwice, "module a; "+item+" @"+item)
		finds(t, api.OK, "module a; "+item, "module b; use a;", "module c; use b; "+item)
	}
	finds(t, api.OK, "module a; data X { u }; trait Y;", "module b; trait X; data Z { u };", "module c; fn X() -> Int { } fn Y() -> Int { }", "module d; use a; use b; use c; trait Z;")
	finds(t, api.OK, "module X; data X { X }; trait X; fn X() -> X { } impl X for Int = f; fn f(X: &Int) -> Int { }")
}

// P4.2: what is used indirectly is not visible.
func TestIndirect(t *testing.T) {
	const through = "module b; use lib;"
	finds(t, api.ErrName, lib, through, "module c; use b; data A { a(@Pair) };")
	finds(t, api.ErrName, lib, through, "module c; use b; fn f<T>() -> Int where @T: Size { }")
	finds(t, api.ErrName, lib, through, "module c; use b; @impl Size for Int = number;")
	finds(t, api.ErrName, lib, through, "module c; use b; trait Size; @impl Size for Int = number;")
	finds(t, api.OK, lib, through, "module c; use b; use lib; data A { a(Pair) }; fn f<T>() -> Int where T: Size { } impl Size for Int = number;")
	p := program(t, lib, through, "module c; use b; data Pair { own };")
	if Data(p, 2, "Pair") != 2 || Data(p, 1, "Pair") != 1 || Data(p, 2, "List") != -1 || Func(p, 2, "size") != -1 || Func(p, 1, "size") != 0 {
		t.Error("names that are used indirectly")
	}
}

// P4.1, step 2: declarations come before what is said of them, kind by kind.
func TestDeclarations(t *testing.T) {
	finds(t, api.OK, "module a; fn f(x: &A) -> B { } impl T for A = f2; fn f2(x: &A) -> Int { } trait T; data A { a(B) }; data B { b };")
	finds(t, api.ErrTwice, "module a; fn f() -> Int { } fn f() -> Int { } trait T; trait T; data A { a }; @data A { a };")
	finds(t, api.ErrTwice, "module a; fn f() -> Int { } fn f() -> Int { } trait T; @trait T; data A { a(A) };")
	finds(t, api.ErrTwice, "module a; fn f() -> Int { } @fn f() -> Int { } trait T; data A { a(A) };")
	finds(t, api.ErrTwice, lib, "module b; use lib; data A { a(A) }; trait Size2; @trait Show; fn size() -> Int { }")
}

// P4.1, step 3: data types and their variants.
func TestDatas(t *testing.T) {
	fields := func(n int) string { return strings.TrimSuffix(strings.Repeat("Int, ", n), ", ") }
	variants := func(n int) string {
		var names []string
		for i := range n {
			names = append(names, "v"+strconv.Itoa(i))
		}
		return strings.Join(names, ", ")
	}
	finds(t, api.OK, "module a; data A<S, T, U, V> { a(S, V) };")
	finds(t, api.ErrLimit, "module a; @data A<S, T, U, V, W> { a };")
	finds(t, api.ErrLimit, "module a; @data A<S, S, S, S, S> { a };")
	finds(t, api.ErrTwice, "module a; @data A<S, T, S> { "+variants(17)+" };")
	finds(t, api.OK, "module a; data A { "+variants(16)+" };")
	finds(t, api.ErrLimit, "module a; @data A { "+variants(17)+" };")
	finds(t, api.ErrLimit, "module a; @data A { u, u, "+variants(15)+" };")
	finds(t, api.OK, "module a; data A { a } drop panic; data B { b } drop 1000000000;")
	finds(t, api.ErrTwice, "module a; data A { a, b, @a(Nope) };")
	finds(t, api.ErrTwice, "module a; data A { a, b, @a("+fields(9)+") };")
	finds(t, api.OK, "module a; data A { a("+fields(8)+") };")
	finds(t, api.ErrLimit, "module a; data A { b, @a("+fields(9)+") };")
	finds(t, api.ErrLimit, "module a; data A { b, @a(Nope, "+fields(8)+"), b };")
	finds(t, api.ErrName, "module a; data A { a(Int, @Nope<Nope>, &Int) };")
	finds(t, api.ErrType, "module a; data A { a(Int, @&Int, Nope) };")
	for _, local := range []string{"Arena", "&Int", "&!Int", "&Arena", "&A"} {
		finds(t, api.ErrType, "module a; data A { a(Int, @"+local+", A) };")
	}
	finds(t, api.ErrType, "module a; data A { a(&!@Arena) };")
	finds(t, api.ErrName, "module a; data A { a(Int, &@Nope) };")
	finds(t, api.ErrName, "module a; data A<T> { a(T) }; data B { b(@T) };")
	finds(t, api.ErrType, "module a; data B { a(@A) }; data A<S, T, U, V, W> { a };")
}

// P4.3: a parameter means more than a data type with its name, and less than Int, Arena, Box and Chan.
func TestParameters(t *testing.T) {
	finds(t, api.OK, "module a; data T { u }; data D<T> { d(T, Box<T>) };")
	finds(t, api.ErrType, "module a; data T<X> { u }; data D<T> { d(T, @T<Int>) };")
	finds(t, api.ErrType, "module a; data T<X> { u }; fn f<T>(x: T) -> @T<Int> { }")
	p := program(t, "module a; data T { u }; data D<S, T> { d(T, Box<T>) }; fn f(x: T) -> Int { } fn g<A, T>(x: &T) -> T { }")
	param := api.Type{Kind: api.TyParam, Id: 1}
	if x := p.Datas[1].Variants[0].Fields[0]; !reflect.DeepEqual(x, param) {
		t.Errorf("a parameter with the name of a data type: %+v", x)
	}
	if f, g := p.Funcs[0], p.Funcs[1]; f.Locals[0].Kind != api.TyData || !reflect.DeepEqual(g.Result, param) || !reflect.DeepEqual(g.Locals[0].Args[0], param) {
		t.Errorf("%+v", p.Funcs)
	}
	names := []string{"Int", "Arena", "Box", "Chan", "&", "&!", "X", "X"}
	for i, c := range []struct {
		e    api.TypeExpr
		kind int
		id   int
	}{
		{expression("Int"), api.TyInt, 0},
		{expression("Arena"), api.TyArena, 0},
		{expression("Box", expression("X")), api.TyBox, 0},
		{expression("Chan", expression("X")), api.TyChan, 0},
		{expression("&", expression("X")), api.TyShared, 0},
		{expression("&!", expression("X")), api.TyExcl, 0},
		{expression("X"), api.TyParam, 6},
	} {
		if x, err, at := Type(p, 0, names, c.e); err != api.OK || at != 0 || x.Kind != c.kind || x.Id != c.id {
			t.Errorf("case %d: %+v, error %d at %d", i, x, err, at)
		}
	}
}

// P4.7, step 4: data types that contain themselves.
func TestRecursion(t *testing.T) {
	finds(t, api.ErrCycle, "module a; @data A { a(A) };")
	finds(t, api.ErrCycle, "module a; @data A { z, a(Int, Box<A>, A) };")
	finds(t, api.ErrCycle, "module a; @data A { a(B) }; data B { b(A) };")
	finds(t, api.ErrCycle, "module a; data N { n(A) }; @data A { a(B) }; data B { b(C) }; data C { c(A) };")
	finds(t, api.ErrCycle, "module a; data A { a(B) }; data N { n }; @data B { b(C) }; data C { c, d(N, B) };")
	finds(t, api.ErrCycle, "module a; @data A<T> { a(A<Int>) };")
	finds(t, api.ErrCycle, "module a; data P<T> { p }; @data A { a(P<A>) };")
	finds(t, api.ErrCycle, "module a; data P<T> { p(Box<T>) }; data Q<T> { q(T) }; @data A { a(P<Q<A>>) };")
	finds(t, api.ErrCycle, "module a; data P<S, T> { p }; @data A { a(P<Box<A>, P<Int, B>>) }; data B { b(A) };")
	finds(t, api.ErrCycle, lib, "module b; use lib; @data A { a(List<A>) };")
	finds(t, api.OK, "module a; data A { a(Box<A>) };")
	finds(t, api.OK, "module a; data A { a(Chan<A>, Box<B>) }; data B { b(A) };")
	finds(t, api.OK, "module a; data P<T> { p(T) }; data A { a(P<Box<A>>, P<P<Chan<P<A>>>>) };")
	finds(t, api.OK, "module a; data D { d }; data C { c(D, D) }; data B { b(C, D) }; data A { a(B, C), z(B, P<P<D>>) }; data P<T> { p(T) };")
	finds(t, api.OK, "module a; data A { a };", "module b; data A { a(B) }; data B { b };", "module c; use a; data B { b(A) };")
	finds(t, api.OK, "module a; data T { t(D<Int>) }; data D<T> { d(T) };")
	finds(t, api.ErrName, "module a; data A { a(A) }; data B { b(@Nope) };")
	finds(t, api.ErrCycle, "module a; @data A { a(A) }; fn f() -> Nope { }")
	chain := "module a; @data D0 { d(D199) };"
	for i := 1; i < 200; i++ {
		chain += " data D" + strconv.Itoa(i) + " { d(D" + strconv.Itoa(i-1) + ") };"
	}
	finds(t, api.ErrCycle, chain)
	finds(t, api.OK, strings.Replace(chain, "@data D0 { d(D199)", "data D0 { d(Box<D199>)", 1))
}

// P4.1, step 5: functions.
func TestFunctions(t *testing.T) {
	args := func(n int) string {
		var list []string
		for i := range n {
			list = append(list, "a"+strconv.Itoa(i)+": Int")
		}
		return strings.Join(list, ", ")
	}
	finds(t, api.OK, "module a; fn f<S, T, U, V>("+args(8)+") -> V { }")
	finds(t, api.ErrLimit, "module a; @fn f<S, T, U, V, W>() -> V { }")
	finds(t, api.ErrLimit, "module a; @fn f<S, S, S, S, S>() -> V { }")
	finds(t, api.ErrTwice, "module a; @fn f<S, T, T>("+args(9)+") -> V { }")
	finds(t, api.ErrLimit, "module a; @fn f<T>("+args(9)+") -> Int where X: Nope { }")
	finds(t, api.ErrName, "module a; trait T; fn f<P>() -> Int where P: T, @Q: T { }")
	finds(t, api.ErrName, "module a; trait T; data Q { q }; fn f<P>(x: Nope) -> Int where P: T, @Q: T, P: N { }")
	finds(t, api.ErrName, "module a; trait T; fn f<P>(x: Nope) -> Int where @P: N, Q: T { }")
	finds(t, api.OK, "module a; trait T; fn f<P>() -> Int where P: T, P: T { }")
	finds(t, api.ErrTwice, "module a; fn f(x: Int, y: Int, @x: Nope) -> Int { }")
	finds(t, api.ErrName, "module a; fn f(x: @Nope, x: Int) -> Nope { }")
	finds(t, api.ErrName, "module a; fn f(x: Int) -> &!@Nope { } fn g() -> Arena { }")
	finds(t, api.OK, "module a; fn f(x: Arena, y: &Arena) -> &Arena { }")
	finds(t, api.ErrType, "module a; fn f() -> @Arena { }")
	finds(t, api.ErrType, "module a; fn f(x: &!@Arena) -> Arena { }")
	finds(t, api.ErrType, "module a; fn f() -> &!@Arena { }")
	finds(t, api.ErrType, "module a; fn f(x: &@&Int) -> Arena { }")
	finds(t, api.ErrType, "module a; fn f(x: &!@&!Int) -> Arena { }")
	finds(t, api.ErrType, "module a; fn f(x: &@&Arena) -> Arena { }")
	for _, local := range []string{"Arena", "&Int", "&!Int"} {
		finds(t, api.ErrType, "module a; fn f(x: Box<@"+local+">) -> Int { }")
		finds(t, api.ErrType, "module a; fn f(x: Chan<@"+local+">) -> Int { }")
		finds(t, api.ErrType, "module a; data D<S, T> { d }; fn f(x: D<Int, @"+local+">) -> Int { }")
	}
	finds(t, api.OK, "module a; fn f() -> Int { fn f[move x: Nope](y: Nope, y: Nope) -> Nope { } return nope; }")
}

// P4.3: the errors of an expression, in their order.
func TestExpressions(t *testing.T) {
	in := func(e string) string { return "module a; data D<S, T> { d }; fn f<P>(x: " + e + ") -> Int { }" }
	finds(t, api.ErrName, in("@Nope<Nope>"))
	finds(t, api.ErrType, in("@D<Nope>"))
	finds(t, api.ErrType, in("@D<Nope, Nope, Nope>"))
	finds(t, api.ErrType, in("@D"))
	finds(t, api.ErrType, in("@P<Nope>"))
	finds(t, api.ErrName, in("D<@Nope, &Int>"))
	finds(t, api.ErrType, in("D<@&Int, Nope>"))
	finds(t, api.ErrName, in("D<&@Nope, Nope>"))
	finds(t, api.ErrType, in("D<Int, @&D<Int, Int>>"))
	finds(t, api.ErrType, in("D<D<Int, @Arena>, Nope>"))
	finds(t, api.OK, in("&D<D<Int, P>, Chan<Box<D<P, P>>>>"))
	nest := func(n int, e string) string { return strings.Repeat("Box<", n) + e + strings.Repeat(">", n) }
	finds(t, api.OK, in(nest(7, "Int")))
	finds(t, api.ErrLimit, in("@"+nest(8, "Int")))
	finds(t, api.ErrLimit, in("Box<Box<@"+nest(8, "Int")+">>"))
	finds(t, api.OK, in("&"+nest(6, "Int")))
	finds(t, api.ErrLimit, in("@&"+nest(7, "Int")))
	finds(t, api.ErrLimit, in("@&!"+nest(7, "P")))
	finds(t, api.ErrLimit, in("Box<@&"+nest(7, "P")+">"))
	finds(t, api.ErrLimit, in("D<@"+nest(8, "Int")+", Nope>"))
	finds(t, api.ErrName, in("D<"+nest(7, "Int")+", @Nope>"))
	finds(t, api.ErrLimit, in("@D<"+nest(7, "Int")+", Int>"))
	finds(t, api.ErrName, in(nest(30, "@Nope")))
	finds(t, api.ErrLimit, in(strings.Repeat("Box<", 22)+"@"+nest(8, "Int")+strings.Repeat(">", 22)))
	finds(t, api.ErrLimit, "module a; data A { a(@"+nest(8, "Int")+") };")
	finds(t, api.ErrLimit, "module a; fn f() -> @&"+nest(7, "Int")+" { }")
}

// P4.1, step 6: implementations, and functions that are wrong in each way.
func TestImplementations(t *testing.T) {
	const traits = "module a; trait A; trait B; data D<T> { d }; data E { e }; data G<S, T> { g }; "
	with := func(function, impl string) string { return traits + function + " { } " + impl }
	finds(t, api.OK, with("fn f(x: &E) -> Int", "impl A for E = f; impl B for E = f; impl A for E = f;"))
	finds(t, api.ErrName, with("fn f(x: &E) -> Int", "@impl C for E = f;"))
	finds(t, api.ErrName, with("fn f(x: &E) -> Int", "@impl<T, T> E for E = f;"))
	finds(t, api.ErrLimit, with("fn f(x: &E) -> Int", "@impl<P, Q, R, S, P> A for E = f;"))
	finds(t, api.ErrTwice, with("fn f(x: &E) -> Int", "@impl<P, Q, P> A for E where R: A = f;"))
	finds(t, api.ErrName, with("fn f<T>(x: &E) -> Int", "impl<P> A for Nope where P: A, @Q: A = f;"))
	finds(t, api.ErrName, with("fn f<T>(x: &E) -> Int", "impl<P> A for Nope where @P: C, Q: A = f;"))
	finds(t, api.ErrName, with("fn f(x: &E) -> Int", "impl A for @Nope = nope;"))
	finds(t, api.ErrType, with("fn f(x: &E) -> Int", "impl A for D<@&Int> = nope;"))
	for _, local := range []string{"Arena", "&E", "&!E", "&Arena"} {
		finds(t, api.ErrType, with("fn f(x: &E) -> Int", "impl A for @"+local+" = nope;"))
	}
	finds(t, api.ErrName, with("fn f(x: &E) -> Int", "@impl A for E = nope;"))
	finds(t, api.ErrType, with("fn f(x: &E) -> Int", "@impl<T> A for E = f;"))
	finds(t, api.ErrType, with("fn f<T>(x: &E) -> Int", "@impl A for E = f;"))
	finds(t, api.OK, with("fn f<T>(x: &E) -> Int", "impl<U> A for E = f;"))
	finds(t, api.ErrType, with("fn f() -> Int", "@impl A for E = f;"))
	finds(t, api.ErrType, with("fn f(x: &E, y: &E) -> Int", "@impl A for E = f;"))
	for _, arg := range []string{"E", "&!E", "&Int", "Box<E>", "&Box<E>", "&Arena", "Arena"} {
		finds(t, api.ErrType, with("fn f(x: "+arg+") -> Int", "@impl A for E = f;"))
	}
	for _, result := range []string{"E", "&Int", "Box<Int>", "Chan<Int>"} {
		finds(t, api.ErrType, with("fn f(x: &E) -> "+result, "@impl A for E = f;"))
	}
	finds(t, api.OK, with("fn f<U>(x: &D<U>) -> Int", "impl<T> A for D<T> = f;"))
	finds(t, api.ErrType, with("fn f<U>(x: &D<Int>) -> Int", "@impl<T> A for D<T> = f;"))
	finds(t, api.OK, with("fn f<S, T>(x: &G<T, S>) -> Int", "impl<X, Y> A for G<Y, X> = f;"))
	finds(t, api.ErrType, with("fn f<S, T>(x: &G<T, S>) -> Int", "@impl<X, Y> A for G<X, Y> = f;"))
	finds(t, api.OK, with("fn f<T>(x: &T) -> Int", "impl<T> A for T = f;"))
	finds(t, api.OK, with("fn f<T>(x: &D<T>) -> Int", "impl<T> A for D<T> where T: A, T: B = f;"))
	finds(t, api.OK, with("fn f<T>(x: &D<T>) -> Int where T: B, T: B", "impl<U> A for D<U> where U: A, U: B = f;"))
	finds(t, api.ErrType, with("fn f<T>(x: &D<T>) -> Int where T: A, T: B", "@impl<T> A for D<T> where T: A = f;"))
	finds(t, api.ErrType, with("fn f<T>(x: &D<T>) -> Int where T: A", "@impl<T> A for D<T> = f;"))
	finds(t, api.ErrType, with("fn f<S, T>(x: &G<S, T>) -> Int where T: A", "@impl<S, T> A for G<S, T> where S: A = f;"))
	finds(t, api.ErrLimit, with("fn f(x: &E) -> Int", "impl A for @Box<Box<Box<Box<Box<Box<Box<D<E>>>>>>>> = f;"))
	finds(t, api.ErrName, traits+"impl C for E = f; fn f(x: &@Nope) -> Int { }")
	finds(t, api.OK, lib, "module b; use lib; trait Eq; impl Eq for Int = number; impl<T> Eq for List<T> where T: Eq, T: Size = size;")
	finds(t, api.ErrType, lib, "module b; use lib; trait Size2; data E { e }; @impl Size2 for E = number;")
	// the data types of two modules that have the same name are different
	finds(t, api.ErrType, "module a; data E { e };", "module b; use a; fn f(x: &E) -> Int { }", "module c; use b; data E { e }; trait T; @impl T for E = f;")
	finds(t, api.OK, "module a; data E { e };", "module b; use a; fn f(x: &E) -> Int { }", "module c; use b; use a; trait T; impl T for E = f;")
	finds(t, api.ErrType, "module a; trait T;", "module b; use a; fn f<P>(x: &P) -> Int where P: T { }", "module c; use b; trait T; @impl<P> T for P where P: T = f;")
}

// P4.1: a module is examined step by step, and one module after the other; each error hides those after it.
func TestOrderOfSteps(t *testing.T) {
	steps := []struct {
		err   api.Errno
		right string
		wrong string
	}{
		{api.ErrTwice, "", "@data Pair { p };"},
		{api.ErrTwice, "", "@trait Size;"},
		{api.ErrTwice, "", "@fn size() -> Int { }"},
		{api.ErrName, "", "data C { c(@Nope) };"},
		{api.ErrCycle, "", "@data F { f(F) };"},
		{api.ErrName, "", "fn f() -> @Nope { }"},
		{api.ErrName, "", "@impl Nope for Int = number;"},
	}
	for i, earlier := range steps {
		for _, later := range steps[i:] {
			wrong := strings.Replace(later.wrong, "@", "", 1)
			if wrong == strings.Replace(earlier.wrong, "@", "", 1) {
				wrong = ""
			}
			finds(t, earlier.err, lib, "module b; use lib; "+wrong+" "+earlier.wrong, "module b; use nope;")
			finds(t, api.ErrTwice, lib, "module b;", "@module b; use lib; "+wrong)
			finds(t, earlier.err, lib, "module b; use lib; "+earlier.wrong, "module c; use lib; "+wrong)
			finds(t, later.err, lib, "module b; use lib; "+later.wrong, "module c; use lib; "+strings.Replace(earlier.wrong, "@", "", 1))
		}
	}
}

// P4.1: Main is a function of the last module without parameters and arguments.
func TestMain(t *testing.T) {
	const main = "fn main() -> Int { }"
	for _, c := range []struct {
		want  int
		texts []string
	}{
		{-1, nil},
		{-1, []string{"module a;"}},
		{0, []string{"module a; " + main}},
		{2, []string{"module a; fn f() -> Int { } fn g() -> Int { } " + main + " fn h() -> Int { }"}},
		{1, []string{"module a; fn f() -> Int { }", "module b; " + main}},
		{-1, []string{"module a; " + main, "module b;"}},
		{-1, []string{"module a; " + main, "module b; use a;"}},
		{1, []string{"module a; " + main, "module b; " + main}},
		{-1, []string{"module a; " + main, "module b; fn main(x: Int) -> Int { }"}},
		{-1, []string{"module a; fn main<T>() -> Int { }"}},
		{-1, []string{"module a; fn main(x: Int) -> Int { }"}},
		{-1, []string{"module a; fn main() -> Box<Int> { }"}},
		{-1, []string{"module a; fn main() -> &Int { }"}},
		{-1, []string{"module a; data D { d }; fn main() -> D { }"}},
		{-1, []string{"module main; data main { main }; trait main; fn Main() -> Int { }"}},
	} {
		if p := program(t, c.texts...); p.Main != c.want {
			t.Errorf("%v: %d, want %d", c.texts, p.Main, c.want)
		}
		finds(t, api.OK, c.texts...)
	}
}

// numbered returns n declarations with different names.
func numbered(n int, before, after string) string {
	var text strings.Builder
	for i := range n {
		text.WriteString(before + strconv.Itoa(i) + after)
	}
	return text.String()
}

// P4.1: 200 data types, traits and functions, in one module or in several ones.
func TestLimitsOfDeclarations(t *testing.T) {
	for _, c := range [][2]string{{"data D", " { d }; "}, {"trait D", "; "}, {"fn D", "() -> Int { } "}} {
		before, after := c[0], c[1]
		last := before + "X" + after
		finds(t, api.OK, "module a; "+numbered(200, before, after))
		finds(t, api.ErrLimit, "module a; "+numbered(200, before, after)+"@"+last)
		finds(t, api.ErrLimit, "module a; "+numbered(200, before, after)+"@"+before+"0"+after)
		finds(t, api.OK, "module a; "+numbered(150, before, after), "module b; "+numbered(50, before, after), "module c;")
		finds(t, api.ErrLimit, "module a; "+numbered(150, before, after), "module b; "+numbered(50, before, after), "module c; @"+last)
		finds(t, api.ErrLimit, "module a; "+numbered(100, before, after), "module b; "+numbered(100, before, after)+"@"+last+last)
		finds(t, api.ErrTwice, "module a; "+numbered(199, before, after)+"@"+before+"0"+after+last)
	}
	all := numbered(200, "data D", " { d }; ") + numbered(200, "trait T", "; ")
	finds(t, api.OK, "module a; "+all, "module b; use a; "+numbered(200, "fn f", "() -> Int { } "))
	finds(t, api.OK, "module a; trait T; fn f(x: &Int) -> Int { }"+strings.Repeat("impl T for Int = f; ", 500))
}

// P4.1: 16 modules, and no more.
func TestLimitOfModules(t *testing.T) {
	var texts []string
	for i := range 18 {
		text := "module m" + strconv.Itoa(i) + "; "
		for j := range min(i, 16) {
			text += "use m" + strconv.Itoa(j) + "; "
		}
		texts = append(texts, text+"fn f"+strconv.Itoa(i)+"() -> Int { }")
	}
	finds(t, api.OK, texts[:15]...)
	finds(t, api.OK, texts[:16]...)
	finds(t, api.ErrLimit, append(slices.Clone(texts[:16]), "@"+texts[16])...)
	finds(t, api.ErrLimit, append(slices.Clone(texts[:16]), "@"+texts[16], texts[17])...)
	finds(t, api.ErrLimit, append(slices.Clone(texts[:16]), "@module m0; use nope;")...)
	finds(t, api.ErrTwice, append(slices.Clone(texts[:15]), "@module m0; use nope;", texts[16])...)
}

// P4.1: declarations that no text has.
func TestNoTexts(t *testing.T) {
	data := func(d api.DataDef) []api.Module {
		d.Name, d.Offset = "D", 9
		return []api.Module{{Name: "m"}, {Name: "n", Datas: []api.DataDef{d}}}
	}
	variant := []api.VariantDef{{Name: "v"}}
	fn := func(f api.FuncDef) []api.Module {
		f.Offset = 9
		return []api.Module{{Name: "m"}, {Name: "n", Funcs: []api.FuncDef{f}}}
	}
	number := expression("Int")
	for i, c := range []struct {
		l   []api.Module
		err api.Errno
	}{
		{data(api.DataDef{}), api.ErrLimit},
		{data(api.DataDef{Drop: -5}), api.ErrLimit},
		{data(api.DataDef{Variants: variant, Drop: -2}), api.ErrArg},
		{data(api.DataDef{Variants: variant, Drop: -1}), api.OK},
		{data(api.DataDef{Variants: variant, Drop: 1000000000}), api.OK},
		{data(api.DataDef{Variants: variant, Drop: 1000000001}), api.ErrArg},
		{data(api.DataDef{Variants: []api.VariantDef{{}, {}}, Drop: -2}), api.ErrArg},
		{fn(api.FuncDef{Captures: []api.ArgDef{{}}, Params: make([]string, 5)}), api.ErrArg},
		{fn(api.FuncDef{Captures: []api.ArgDef{{Name: "x", Type: number, Capture: -7}}, Result: number}), api.ErrArg},
		{fn(api.FuncDef{Args: []api.ArgDef{{Name: "x", Type: number, Capture: -7}, {Name: "", Type: number, Capture: 99}}, Result: number}), api.OK},
		{fn(api.FuncDef{Params: []string{"", "if", "Int"}, Args: []api.ArgDef{{Name: "", Type: expression("")}, {Name: "while", Type: expression("if")}}, Result: number}), api.OK},
		{fn(api.FuncDef{Params: []string{"", ""}, Result: number}), api.ErrTwice},
		{[]api.Module{{}, {Name: "use", Uses: []string{""}}}, api.OK},
		{[]api.Module{{Datas: []api.DataDef{{Name: "", Variants: []api.VariantDef{{Fields: []api.TypeExpr{number}}}}, {Name: "fn", Variants: []api.VariantDef{{Fields: []api.TypeExpr{expression("")}}}}}}}, api.OK},
		{[]api.Module{{Datas: []api.DataDef{{Name: "Int", Params: []string{"T"}, Variants: []api.VariantDef{{Name: "if", Fields: []api.TypeExpr{number}}}}}}}, api.OK},
		{[]api.Module{{Traits: []api.TraitDef{{Name: ""}, {Name: "a b"}}, Funcs: []api.FuncDef{{Args: []api.ArgDef{{Type: expression("&", number)}}, Result: number}}, Impls: []api.ImplDef{{Trait: "a b", Type: number}}}}, api.OK},
	} {
		if got := checkTables(t, c.l); got.err != c.err || got.err != api.OK && got.where != (api.Where{Module: 1, Offset: 9}) {
			t.Errorf("case %d: error %d at %v, want %d", i, got.err, got.where, c.err)
		}
	}
	if _, err, where := Tables([]api.Module{{}, {}, {Name: "m", Uses: []string{"m"}}}); err != api.ErrTwice || where != (api.Where{Module: 1}) {
		t.Errorf("two modules without a name: %d at %v", err, where)
	}
	offset := api.Module{Name: "m", Datas: []api.DataDef{{Name: "D", Offset: -1 << 63}}}
	if _, err, where := Tables([]api.Module{offset}); err != api.ErrLimit || where.Offset != -1<<63 {
		t.Errorf("a negative offset: %d at %v", err, where)
	}
}

// D2: errors of modules that are none.
func TestTypeOfNoModule(t *testing.T) {
	l, _ := read(t, lib, "module b; use lib; data Own { o };")
	p, _, _ := Tables(l)
	short := p
	short.Uses = p.Uses[:1]
	e := expression("Nope")
	e.Offset = 5
	for i, c := range []struct {
		p      api.Program
		module int
		err    api.Errno
	}{
		{p, -1 << 63, api.ErrArg}, {p, -1, api.ErrArg}, {p, 0, api.ErrName}, {p, 1, api.ErrName}, {p, 2, api.ErrArg}, {p, 1<<63 - 1, api.ErrArg},
		{short, 0, api.ErrName}, {short, 1, api.ErrArg}, {api.Program{}, 0, api.ErrArg}, {api.Program{Uses: make([][]int, 3)}, 0, api.ErrArg},
		{api.Program{Uses: make([][]int, 3), Modules: make([]string, 1)}, 0, api.ErrName}, {api.Program{Modules: make([]string, 1)}, 0, api.ErrArg},
	} {
		want := 0
		if c.err == api.ErrName {
			want = 5
		}
		if x, err, at := Type(c.p, c.module, nil, e); err != c.err || at != want || !reflect.DeepEqual(x, api.Type{}) {
			t.Errorf("case %d: %+v, error %d at %d", i, x, err, at)
		}
	}
}

// D2: types in a program, with the parameters of a declaration.
func TestType(t *testing.T) {
	p := program(t, lib, "module b; use lib;", "module c; use b;")
	pair := expression("Pair")
	if x, err, at := Type(p, 1, nil, pair); err != api.OK || at != 0 || !reflect.DeepEqual(x, api.Type{Kind: api.TyData, Id: 1}) {
		t.Errorf("Pair: %+v, error %d at %d", x, err, at)
	}
	if _, err, _ := Type(p, 2, nil, pair); err != api.ErrName {
		t.Errorf("Pair is not visible: %d", err)
	}
	if x, err, _ := Type(p, 2, []string{"A", "Pair"}, pair); err != api.OK || !reflect.DeepEqual(x, api.Type{Kind: api.TyParam, Id: 1}) {
		t.Errorf("a parameter: %+v, %d", x, err)
	}
	for n, want := range map[int]api.Errno{0: api.OK, 7: api.OK, 8: api.ErrLimit, 60000: api.ErrLimit} {
		deep := boxes(n, expression("Int"))
		if x, err, _ := Type(p, 0, nil, deep); err != want || (err == api.OK) != (depth(x) == n+1) {
			t.Errorf("%d boxes: error %d", n, err)
		}
		if n > 0 {
			if _, err, _ := Type(p, 0, nil, expression("&", boxes(n-1, expression("Int")))); err != want {
				t.Errorf("a reference to %d boxes: error %d", n-1, err)
			}
		}
	}
	if _, err, _ := Type(p, 0, nil, boxes(60000, expression("Nope"))); err != api.ErrName {
		t.Errorf("an unknown name in boxes: %d", err)
	}
	for _, c := range []struct {
		e    api.TypeExpr
		want api.Errno
	}{
		{expression("&", expression("Arena")), api.OK},
		{expression("&!", expression("Arena")), api.ErrType},
		{expression("Arena"), api.OK},
		{expression("Arena", expression("Int")), api.ErrType},
		{expression("Int", expression("Int")), api.ErrType},
		{expression("Box"), api.ErrType},
		{expression("Chan"), api.ErrType},
		{expression("&"), api.ErrType},
		{expression("&!"), api.ErrType},
		{expression("&", pair, pair), api.ErrType},
		{expression("&!", pair, pair), api.ErrType},
		{expression("Chan", pair, pair), api.ErrType},
		{expression("List"), api.ErrType},
		{expression("List", pair, pair), api.ErrType},
		{expression("List", pair), api.OK},
		{expression(""), api.ErrName},
		{expression("fn"), api.ErrName},
	} {
		if x, err, at := Type(p, 0, nil, c.e); err != c.want || at != 0 || err != api.OK && !reflect.DeepEqual(x, api.Type{}) {
			t.Errorf("%+v: %+v, error %d at %d, want %d", c.e, x, err, at, c.want)
		}
	}
}

// D2, P0.1: programs that Tables does not return.
func TestTypeInAnyProgram(t *testing.T) {
	number := expression("Int")
	p := api.Program{Modules: []string{"a", "b"}, Uses: [][]int{{7, -1}, {0, 0}}, Datas: []api.Data{{Name: "Few", Params: -1}, {Name: "Many", Params: 9}, {Name: "Far", Module: 7}, {Name: "Near"}, {Name: "Near"}}}
	many := expression("Many", slices.Repeat([]api.TypeExpr{number}, 9)...)
	if x, err, _ := Type(p, 0, nil, many); err != api.OK || x.Id != 1 || len(x.Args) != 9 {
		t.Errorf("9 parameters: %+v, %d", x, err)
	}
	if _, err, _ := Type(p, 0, nil, expression("Few")); err != api.ErrType {
		t.Errorf("-1 parameters: %d", err)
	}
	if x, err, _ := Type(p, 1, nil, expression("Near")); err != api.OK || x.Id != 3 {
		t.Errorf("the least index: %+v, %d", x, err)
	}
	if _, err, _ := Type(p, 1, nil, expression("Far")); err != api.ErrName {
		t.Errorf("a data type of no module: %d", err)
	}
}

// D3: names in modules, and in modules that are none.
func TestNames(t *testing.T) {
	l, _ := read(t, lib, "module b; use lib; data Own { o }; trait Own; fn Own() -> Int { }", "module c; use b;")
	p, _, _ := Tables(l)
	for _, c := range []struct {
		module            int
		name              string
		data, trait, fn   int
		ownData, ownTrait int // with fewer Uses than Modules
	}{
		{0, "List", 0, -1, -1, 0, -1}, {1, "List", 0, -1, -1, -1, -1}, {2, "List", -1, -1, -1, -1, -1},
		{0, "Show", -1, 1, -1, -1, 1}, {1, "Show", -1, 1, -1, -1, -1}, {2, "Show", -1, -1, -1, -1, -1},
		{0, "Own", -1, -1, -1, -1, -1}, {1, "Own", 2, 2, 2, 2, 2}, {2, "Own", 2, 2, 2, -1, -1},
		{0, "number", -1, -1, 1, -1, -1}, {1, "number", -1, -1, 1, -1, -1}, {1, "main", -1, -1, -1, -1, -1}, {1, "", -1, -1, -1, -1, -1},
		{-1, "List", -1, -1, -1, -1, -1}, {3, "List", -1, -1, -1, -1, -1}, {-1 << 63, "Own", -1, -1, -1, -1, -1}, {1<<63 - 1, "Own", -1, -1, -1, -1, -1},
	} {
		if d, tr, f := Data(p, c.module, c.name), Trait(p, l, c.module, c.name), Func(p, c.module, c.name); d != c.data || tr != c.trait || f != c.fn {
			t.Errorf("%s in %d: %d, %d, %d", c.name, c.module, d, tr, f)
		}
		short := p
		short.Uses = p.Uses[:1]
		if d, tr := Data(short, c.module, c.name), Trait(short, l, c.module, c.name); d != c.ownData || tr != c.ownTrait {
			t.Errorf("%s in %d without Uses: %d, %d", c.name, c.module, d, tr)
		}
	}
	if Data(api.Program{}, 0, "List") != -1 || Func(api.Program{}, 0, "size") != -1 || Trait(api.Program{}, nil, 0, "Size") != -1 {
		t.Error("names in the zero program")
	}
}

// D3: Trait has to be given the modules of the program.
func TestTraitOfOtherModules(t *testing.T) {
	l, _ := read(t, lib, "module b; use lib; trait Eq;")
	p, _, _ := Tables(l)
	more, _ := read(t, lib, "module b; use lib; trait Eq; trait Ord;")
	for i, other := range [][]api.Module{nil, l[:1], l[1:], more} {
		if k := Trait(p, other, 1, "Eq"); k != -1 {
			t.Errorf("case %d: %d", i, k)
		}
	}
	if Trait(p, l, 1, "Eq") != 2 || Trait(p, l, 0, "Eq") != -1 || Trait(p, l, 1, "Size") != 0 {
		t.Error("traits of the modules of the program")
	}
	p.Homes = p.Homes[:1]
	if Trait(p, l, 1, "Eq") != -1 || Trait(p, l, 0, "Show") != -1 || Trait(p, l, 1, "Size") != 0 {
		t.Error("traits without a module")
	}
}

// P0.1: an examination that panics with something else has an error, too.
func TestForeignPanic(t *testing.T) {
	if f := attempt(func() { panic("no failure") }); f != (failure{api.ErrArg, 0}) {
		t.Errorf("%+v", f)
	}
	if f := attempt(func() {}); f != (failure{}) {
		t.Errorf("%+v", f)
	}
}
