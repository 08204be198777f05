package parser

import (
	"fmt"
	"slices"
	"strings"
	"testing"

	"leasehold/api"
	"leasehold/lexer"
)

// show writes a result so that nil and empty lists are the same.
func show(x any) string { return fmt.Sprintf("%+v", x) }

func reads(t *testing.T, text string, want api.Module) {
	t.Helper()
	m, err, at := Parse(text)
	if err != api.OK || at != 0 || show(m) != show(want) {
		t.Errorf("%.200q:\n%s, error %d at %d, want\n%s", text, show(m), err, at, show(want))
	}
}

func refuses(t *testing.T, text string, want api.Errno, offset int) {
	t.Helper()
	m, err, at := Parse(text)
	if err != want || at != offset || show(m) != show(api.Module{}) {
		t.Errorf("%.200q: %.200s, error %d at %d, want %d at %d", text, show(m), err, at, want, offset)
	}
}

// A part of a text stands in a module, between two texts.
const (
	inModule = "module m; "
	inBlock  = "module m; fn f() -> Int { "
	inLet    = "module m; fn f() -> Int { let x = "
	inType   = "module m; fn f() -> "
)

func stmtAt(t *testing.T, text string) api.Stmt {
	t.Helper()
	m, err, at := Parse(inBlock + text + " }")
	if err != api.OK || len(m.Funcs) != 1 || len(m.Funcs[0].Body) != 1 {
		t.Fatalf("%q: %s, error %d at %d", text, show(m), err, at)
	}
	return m.Funcs[0].Body[0]
}

// P2.1: the examples of the chapter.
func TestExamples(t *testing.T) {
	reads(t, "module m;", api.Module{Name: "m"})
	number := api.Expr{Kind: api.ExNumber, Number: 5, Offset: 34}
	body := []api.Stmt{{Kind: api.StLet, Name: "x", Expr: number, Offset: 26}, {Kind: api.StReturn, Name: "x", Offset: 37}}
	reads(t, "module m; fn f() -> Int { let x = 5; return x; }", api.Module{Name: "m", Funcs: []api.FuncDef{{Name: "f", Result: api.TypeExpr{Name: "Int", Offset: 20}, Body: body, Offset: 10}}})
	refuses(t, "module m; fn f() -> Int { let x = ; }", api.ErrSyntax, 34)
	refuses(t, "module m; data", api.ErrEnd, 14)
	refuses(t, "module if;", api.ErrSyntax, 7)
}

// P2.1: the parts of each kind of item, with their offsets.
func TestItems(t *testing.T) {
	of := func(name string, offset int, args ...api.TypeExpr) api.TypeExpr {
		return api.TypeExpr{Name: name, Args: args, Offset: offset}
	}
	for _, c := range []struct {
		text string
		want api.Module
	}{
		{"use a; use b;", api.Module{Uses: []string{"a", "b"}}},
		{"trait T; trait U;", api.Module{Traits: []api.TraitDef{{Name: "T", Offset: 10}, {Name: "U", Offset: 19}}}},
		{"data d { v };", api.Module{Datas: []api.DataDef{{Name: "d", Variants: []api.VariantDef{{Name: "v", Offset: 19}}, Offset: 10}}}},
		{"data d { v } drop panic;", api.Module{Datas: []api.DataDef{{Name: "d", Variants: []api.VariantDef{{Name: "v", Offset: 19}}, Drop: -1, Offset: 10}}}},
		{"data d { v } drop 5;", api.Module{Datas: []api.DataDef{{Name: "d", Variants: []api.VariantDef{{Name: "v", Offset: 19}}, Drop: 5, Offset: 10}}}},
		{"data d { v } drop 0;", api.Module{Datas: []api.DataDef{{Name: "d", Variants: []api.VariantDef{{Name: "v", Offset: 19}}, Offset: 10}}}},
		{"data d { v } drop 1000000000;", api.Module{Datas: []api.DataDef{{Name: "d", Variants: []api.VariantDef{{Name: "v", Offset: 19}}, Drop: 1000000000, Offset: 10}}}},
		{"data d<A, B> { v(A, B), w };", api.Module{Datas: []api.DataDef{{Name: "d", Params: []string{"A", "B"}, Variants: []api.VariantDef{{Name: "v", Fields: []api.TypeExpr{of("A", 27), of("B", 30)}, Offset: 25}, {Name: "w", Offset: 34}}, Offset: 10}}}},
		{"impl T for Int = f;", api.Module{Impls: []api.ImplDef{{Trait: "T", Type: of("Int", 21), Func: "f", Offset: 10}}}},
		{"impl<A, B> T for d<A, B> where A: T, B: U = f;", api.Module{Impls: []api.ImplDef{{Trait: "T", Params: []string{"A", "B"}, Type: of("d", 27, of("A", 29), of("B", 32)), Bounds: []api.BoundDef{{Param: "A", Trait: "T", Offset: 41}, {Param: "B", Trait: "U", Offset: 47}}, Func: "f", Offset: 10}}}},
		{"fn f() -> Int { }", api.Module{Funcs: []api.FuncDef{{Name: "f", Result: of("Int", 20), Offset: 10}}}},
		{"fn f<A>(a: &A, b: Int) -> A where A: T { panic; }", api.Module{Funcs: []api.FuncDef{{Name: "f", Params: []string{"A"}, Bounds: []api.BoundDef{{Param: "A", Trait: "T", Offset: 44}}, Args: []api.ArgDef{{Name: "a", Type: of("&", 21, of("A", 22)), Offset: 18}, {Name: "b", Type: of("Int", 28), Offset: 25}}, Result: of("A", 36), Body: []api.Stmt{{Kind: api.StPanic, Offset: 51}}, Offset: 10}}}},
	} {
		c.want.Name = "m"
		reads(t, inModule+c.text, c.want)
	}
}

// P2.1: the lists of a module are in the order of the text, whatever stands between their elements.
func TestOrderOfItems(t *testing.T) {
	m, err, _ := Parse("module m; use z; use a; use z; fn g() -> Int { } data e { v }; trait U; impl U for Int = g; trait T; fn f() -> Int { } impl T for Int = f; data d { w, v }; trait T;")
	var names []string
	for _, x := range m.Datas {
		names = append(names, x.Name)
		for _, v := range x.Variants {
			names = append(names, v.Name)
		}
	}
	for _, x := range m.Traits {
		names = append(names, x.Name)
	}
	for _, x := range m.Impls {
		names = append(names, x.Trait)
	}
	for _, x := range m.Funcs {
		names = append(names, x.Name)
	}
	if got := strings.Join(slices.Concat(m.Uses, names), " "); err != api.OK || got != "z a z e v d w v U T T U T g f" {
		t.Error(got, err)
	}
}

// P2.1: the kinds of types, with the offsets of their parts.
func TestTypes(t *testing.T) {
	for text, want := range map[string]string{
		"Int":                             "Int@0",
		"Arena":                           "Arena@0",
		"Box<Int>":                        "Box@0<Int@4>",
		"Chan < Box<T> >":                 "Chan@0<Box@7<T@11>>",
		"&Int":                            "&@0<Int@1>",
		"&!Int":                           "&!@0<Int@2>",
		"& & &! T":                        "&@0<&@2<&!@4<T@7>>>",
		"&&!&T":                           "&@0<&!@1<&@3<T@4>>>",
		"T":                               "T@0",
		"boxes":                           "boxes@0",
		"p<A>":                            "p@0<A@2>",
		"p<A, q<Int, Box<B>>, &p<Arena>>": "p@0<A@2 q@5<Int@7 Box@12<B@16>> &@21<p@22<Arena@24>>>",
	} {
		m, err, at := Parse(inType + text + " { }")
		if err != api.OK || len(m.Funcs) != 1 || typeText(m.Funcs[0].Result, len(inType)) != want {
			t.Errorf("%s: %s, error %d at %d, want %s", text, show(m), err, at, want)
		}
	}
}

func typeText(x api.TypeExpr, from int) string {
	s := fmt.Sprint(x.Name, "@", x.Offset-from)
	if len(x.Args) == 0 {
		return s
	}
	var l []string
	for _, a := range x.Args {
		l = append(l, typeText(a, from))
	}
	return s + "<" + strings.Join(l, " ") + ">"
}

// P2.1: each kind of statement.
func TestStatements(t *testing.T) {
	intAt := func(offset int) api.TypeExpr { return api.TypeExpr{Name: "Int", Offset: offset} }
	name := func(n string, offset int) api.Expr {
		return api.Expr{Kind: api.ExName, Names: []string{n}, Offset: offset}
	}
	panics := func(offset int) []api.Stmt { return []api.Stmt{{Kind: api.StPanic, Offset: offset}} }
	for _, c := range []struct {
		text string
		want api.Stmt
	}{
		{"let a = b;", api.Stmt{Kind: api.StLet, Name: "a", Expr: name("b", 34)}},
		{"let a: Int = b;", api.Stmt{Kind: api.StLet, Name: "a", Type: []api.TypeExpr{intAt(33)}, Expr: name("b", 39)}},
		{"a = b;", api.Stmt{Kind: api.StSet, Name: "a", Expr: name("b", 30)}},
		{"*a = b;", api.Stmt{Kind: api.StStore, Name: "a", Names: []string{"b"}}},
		{"if a { }", api.Stmt{Kind: api.StIf, Name: "a"}},
		{"if a { panic; }", api.Stmt{Kind: api.StIf, Name: "a", Then: panics(33)}},
		{"if a { } else { }", api.Stmt{Kind: api.StIf, Name: "a"}},
		{"if a { } else { panic; }", api.Stmt{Kind: api.StIf, Name: "a", Else: panics(42)}},
		{"while a { panic; }", api.Stmt{Kind: api.StWhile, Name: "a", Then: panics(36)}},
		{"match a { v { } }", api.Stmt{Kind: api.StMatch, Name: "a", Arms: []api.ArmDef{{Variant: "v", Offset: 36}}}},
		{"match a { v { panic; } w(x, y) { panic; } }", api.Stmt{Kind: api.StMatch, Name: "a", Arms: []api.ArmDef{{Variant: "v", Body: panics(40), Offset: 36}, {Variant: "w", Names: []string{"x", "y"}, Body: panics(59), Offset: 49}}}},
		{"return a;", api.Stmt{Kind: api.StReturn, Name: "a"}},
		{"panic;", api.Stmt{Kind: api.StPanic}},
		{"drop a;", api.Stmt{Kind: api.StDrop, Name: "a"}},
		{"print a;", api.Stmt{Kind: api.StPrint, Name: "a"}},
		{"send a b;", api.Stmt{Kind: api.StSend, Name: "a", Names: []string{"b"}}},
		{"spawn f();", api.Stmt{Kind: api.StSpawn, Name: "f"}},
		{"spawn f(a, b);", api.Stmt{Kind: api.StSpawn, Name: "f", Names: []string{"a", "b"}}},
		{"fn g[]() -> Int { }", api.Stmt{Kind: api.StFunc, Func: []api.FuncDef{{Name: "g", Result: intAt(38), Offset: 26}}}},
		{"fn g[move a: Int](b: Int) -> Int { panic; }", api.Stmt{Kind: api.StFunc, Func: []api.FuncDef{{Name: "g", Captures: []api.ArgDef{{Name: "a", Type: intAt(39), Capture: api.CaptureMove, Offset: 31}}, Args: []api.ArgDef{{Name: "b", Type: intAt(47), Offset: 44}}, Result: intAt(55), Body: panics(61), Offset: 26}}}},
		{"fn g[&a: Int, &!b: Int, & c: Int]() -> Int { }", api.Stmt{Kind: api.StFunc, Func: []api.FuncDef{{Name: "g", Captures: []api.ArgDef{{Name: "a", Type: intAt(35), Capture: api.CaptureShared, Offset: 31}, {Name: "b", Type: intAt(45), Capture: api.CaptureExcl, Offset: 40}, {Name: "c", Type: intAt(55), Capture: api.CaptureShared, Offset: 50}}, Result: intAt(65), Offset: 26}}}},
	} {
		c.want.Offset = len(inBlock)
		if s := stmtAt(t, c.text); show(s) != show(c.want) {
			t.Errorf("%s:\n%s, want\n%s", c.text, show(s), show(c.want))
		}
	}
}

// P2.1: each kind of expression.
func TestExpressions(t *testing.T) {
	a, ab := []string{"a"}, []string{"a", "b"}
	for text, want := range map[string]api.Expr{
		"5":                   {Kind: api.ExNumber, Number: 5},
		"-5":                  {Kind: api.ExNumber, Number: -5},
		"- 5":                 {Kind: api.ExNumber, Number: -5},
		"-0":                  {Kind: api.ExNumber},
		"1000000000":          {Kind: api.ExNumber, Number: 1000000000},
		"-1000000000":         {Kind: api.ExNumber, Number: -1000000000},
		"a":                   {Kind: api.ExName, Names: a},
		"a + b":               {Kind: api.ExBinary, Op: "+", Names: ab},
		"a-b":                 {Kind: api.ExBinary, Op: "-", Names: ab},
		"a*b":                 {Kind: api.ExBinary, Op: "*", Names: ab},
		"a<b":                 {Kind: api.ExBinary, Op: "<", Names: ab},
		"a==b":                {Kind: api.ExBinary, Op: "==", Names: ab},
		"new d.v":             {Kind: api.ExNew, Name: "d", Variant: "v"},
		"new d.v(a)":          {Kind: api.ExNew, Name: "d", Variant: "v", Names: a},
		"new d . v ( a , b )": {Kind: api.ExNew, Name: "d", Variant: "v", Names: ab},
		"box a":               {Kind: api.ExBox, Names: a},
		"unbox a":             {Kind: api.ExUnbox, Names: a},
		"&a":                  {Kind: api.ExShare, Names: a},
		"&!a":                 {Kind: api.ExLend, Names: a},
		"&*a":                 {Kind: api.ExReShare, Names: a},
		"&!*a":                {Kind: api.ExReLend, Names: a},
		"&in a":               {Kind: api.ExInShare, Names: a},
		"&!in a":              {Kind: api.ExInLend, Names: a},
		"a.0":                 {Kind: api.ExField, Names: a},
		"a.12":                {Kind: api.ExField, Names: a, Number: 12},
		"*a":                  {Kind: api.ExLoad, Names: a},
		"f()":                 {Kind: api.ExCall, Name: "f"},
		"f(a)":                {Kind: api.ExCall, Name: "f", Names: a},
		"f(a, b)":             {Kind: api.ExCall, Name: "f", Names: ab},
		"T::a":                {Kind: api.ExMethod, Name: "T", Names: a},
		"arena":               {Kind: api.ExArena},
		"alloc a b":           {Kind: api.ExAlloc, Names: ab},
		"recv a":              {Kind: api.ExRecv, Names: a},
		"chan Int":            {Kind: api.ExChan, Type: []api.TypeExpr{{Name: "Int", Offset: 39}}},
		"chan & T":            {Kind: api.ExChan, Type: []api.TypeExpr{{Name: "&", Offset: 39, Args: []api.TypeExpr{{Name: "T", Offset: 41}}}}},
	} {
		want.Offset = len(inLet)
		if s := stmtAt(t, "let x = "+text+";"); show(s.Expr) != show(want) {
			t.Errorf("%s: %s, want %s", text, show(s.Expr), show(want))
		}
		if s := stmtAt(t, "x =     "+text+";"); show(s.Expr) != show(want) {
			t.Errorf("%s: %s, want %s", text, show(s.Expr), show(want))
		}
	}
}

// P2.1: texts that are no modules, though more of them can follow.
func TestEnds(t *testing.T) {
	for _, text := range []string{
		"", " ", "\n\t\r ", "# module m;", " # x", "#", "module", "module m", "module m # ;", "module m; use", "module m; use a", "module m; data", "module m; data d", "module m; data d<", "module m; data d<A", "module m; data d<A,", "module m; data d<A>",
		"module m; data d {", "module m; data d { v", "module m; data d { v,", "module m; data d { v(", "module m; data d { v(Int", "module m; data d { v(Int,", "module m; data d { v(Int)", "module m; data d { v }", "module m; data d { v } drop", "module m; data d { v } drop 5", "module m; data d { v } drop panic",
		"module m; trait", "module m; trait T", "module m; impl", "module m; impl<", "module m; impl<A> T", "module m; impl T for", "module m; impl T for &", "module m; impl T for Int", "module m; impl T for Int where", "module m; impl T for Int where A", "module m; impl T for Int where A:", "module m; impl T for Int where A: T", "module m; impl T for Int where A: T,", "module m; impl T for Int =", "module m; impl T for Int = f",
		"module m; fn", "module m; fn f", "module m; fn f(", "module m; fn f(a", "module m; fn f(a:", "module m; fn f(a: Box", "module m; fn f(a: Box<Int", "module m; fn f(a: Int,", "module m; fn f()", "module m; fn f() ->", inType + "T", inType + "T<", inType + "T<Int", inType + "Int where A: T",
		inBlock, inBlock + "let", inBlock + "let x", inBlock + "let x:", inBlock + "let x: Int", inLet, inLet + "-", inLet + "5", inLet + "a", inLet + "a +", inLet + "a.", inLet + "a::", inLet + "a(", inLet + "a(b", inLet + "a(b,", inLet + "a()", inLet + "new", inLet + "new a", inLet + "new a.", inLet + "new a.b", inLet + "new a.b(", inLet + "&", inLet + "&in", inLet + "&!*", inLet + "alloc", inLet + "alloc a", inLet + "arena", inLet + "chan", inLet + "chan Int",
		inBlock + "x", inBlock + "x =", inBlock + "*", inBlock + "*x", inBlock + "*x =", inBlock + "*x = y", inBlock + "if", inBlock + "if x", inBlock + "if x {", inBlock + "if x { }", inBlock + "if x { } else", inBlock + "if x { } else { }", inBlock + "while x { }", inBlock + "match x", inBlock + "match x {", inBlock + "match x { v", inBlock + "match x { v(", inBlock + "match x { v(a)", inBlock + "match x { v {", inBlock + "match x { v { }",
		inBlock + "panic", inBlock + "return", inBlock + "send a", inBlock + "spawn f(", inBlock + "spawn f()", inBlock + "fn", inBlock + "fn g", inBlock + "fn g[", inBlock + "fn g[move", inBlock + "fn g[&! a", inBlock + "fn g[& a: Int", inBlock + "fn g[& a: Int,", inBlock + "fn g[]", inBlock + "fn g[](", inBlock + "fn g[]() -> Int", inBlock + "fn g[]() -> Int { }",
	} {
		refuses(t, text, api.ErrEnd, len(text))
		refuses(t, text+" \n", api.ErrEnd, len(text)+2)
		refuses(t, text+"\n# end", api.ErrEnd, len(text)+6)
	}
}

// P2.1: the first token with which no module goes on stands at a |.
func TestSyntaxErrors(t *testing.T) {
	for _, text := range []string{
		"|modul m;", "|Module m;", "|m;", "|5", "|;", "module |;", "module |5;", "module m |m;", "module m; |;", "module m; |module n;", "module m; |5", "module m; |x", "module m; use |if;", "module m; use a|, b;", "module m; trait T; |use a;",
		"module m; data d { |};", "module m; data d { v|;", "module m; data d { v, |}", "module m; data d { v(|) };", "module m; data d { v(Int,|) };", "module m; data d<|> { v };", "module m; data d<|Int> { v };", "module m; data d { v } |trait", "module m; data d { v } drop |x;", "module m; data d { v } drop |-5;", "module m; data d { v } drop panic |5;", "module m; data d { v }; |drop 5;",
		"module m; trait T|<A>;", "module m; trait |Int;", "module m; impl T |Int = f;", "module m; impl T for |= f;", "module m; impl T for Int where |= f;", "module m; impl T for Int where A|=", "module m; impl T for Int where A: T, |= f;", "module m; impl T for Int = |Int;", "module m; impl T for Int |;", "module m; impl |Int for T = f;",
		"module m; fn f(a|) -> Int { }", "module m; fn f(a: Box|) -> Int { }", "module m; fn f(a: Box<|>) -> Int { }", "module m; fn f(a: Box<Int|, Int>) -> Int { }", "module m; fn f(a: Int|<T>) -> Int { }", "module m; fn f(a: Int,|) -> Int { }", "module m; fn f() |{ }", "module m; fn f|[]() -> Int { }", "module m; fn f() -> Int|;", "module m; fn f() -> Int where |{ }", "module m; fn f() -> T<|>", "module m; fn f<A|()", "module m; fn |fn() -> Int { }", "module m; fn f(|&a: Int) -> Int { }", "module m; fn f() -> Chan |Int { }",
		inBlock + "x|; }", inBlock + "|5 }", inBlock + "|; }", inBlock + "|{ } }", inBlock + "} |}", inBlock + "} |;", inBlock + "|else { } }", inBlock + "if x { } else |if y { } }", inBlock + "if x |print x; }", inBlock + "if |5 { } }", inBlock + "if x { } else { } |else { } }", inBlock + "while |{ } }", inBlock + "*x = |5; }", inBlock + "*|*x = y; }", inBlock + "let |5 = x; }", inBlock + "let x|; }", inBlock + "let x: |= y; }", inBlock + "let x: Int|== y; }",
		inBlock + "match x { |} }", inBlock + "match x { v(|) { } } }", inBlock + "match x { v |} }", inBlock + "match x { v(|5) { } } }", inBlock + "match x { v { }|, w { } } }", inBlock + "return |; }", inBlock + "return x |y; }", inBlock + "panic |x; }", inBlock + "drop |panic; }", inBlock + "send a|, b; }", inBlock + "send a |; }", inBlock + "spawn f|; }", inBlock + "spawn f(a|: Int); }", inBlock + "spawn f(a,|); }", inBlock + "|recv x; }", inBlock + "|new d.v; }", inBlock + "|in; }", inBlock + "f|(x); }",
		inBlock + "fn g |() -> Int { } }", inBlock + "fn g[|a: Int]() -> Int { } }", inBlock + "fn g[move a|]() -> Int { } }", inBlock + "fn g[move |&a: Int]() -> Int { } }", inBlock + "fn g[] |-> Int { } }", inBlock + "fn g|<A>[]() -> Int { } }", inBlock + "fn g[]() -> Int |where A: T { } }", inBlock + "fn g[&a: Int,|]() -> Int { } }", inBlock + "fn g[](|move a: Int)",
		inLet + "|; }", inLet + "-|y; }", inLet + "-|-5; }", inLet + "5 |+ y; }", inLet + "y + |5; }", inLet + "y + z |+ x; }", inLet + "y.|z; }", inLet + "y |z; }", inLet + "y |= z; }", inLet + "new |5; }", inLet + "new d|; }", inLet + "new d.|5; }", inLet + "new d.v(|); }", inLet + "box |5; }", inLet + "box |box y; }", inLet + "&|&y; }", inLet + "&in|; }", inLet + "&in |in y; }", inLet + "&*|*y; }", inLet + "*|&y; }", inLet + "y(|5); }", inLet + "y::|Int; }", inLet + "y |: Int; }", inLet + "arena |y; }", inLet + "alloc y|; }", inLet + "alloc y|, z; }", inLet + "chan |5; }", inLet + "|Chan<Int>; }", inLet + "recv |; }", inLet + "|(y); }", inLet + "|while; }", inLet + "y |> z; }", inLet + "y |-> z; }", inLet + "y <|- 1; }",
	} {
		before, after, _ := strings.Cut(text, "|")
		refuses(t, before+after, api.ErrSyntax, len(before))
	}
}

// P2.1: errors of the lexer come before those of the grammar, wherever they stand.
func TestLexerErrors(t *testing.T) {
	long := strings.Repeat("n", 25)
	refuses(t, "module m; $", api.ErrChar, 10)
	refuses(t, "modul m; $", api.ErrChar, 9)
	refuses(t, "; ; ;\n!", api.ErrChar, 6)
	refuses(t, "module m; data !", api.ErrChar, 15)
	refuses(t, "module if; fn f() -> Int { let x = 1000000001; }", api.ErrLimit, 35)
	refuses(t, "5 "+long, api.ErrLimit, 2)
	refuses(t, "module "+long+";", api.ErrLimit, 7)
	refuses(t, strings.Repeat(";", 6001), api.ErrLimit, 6000)
	refuses(t, strings.Repeat(";", 6000), api.ErrSyntax, 0)
	refuses(t, strings.Repeat(" ", 20001), api.ErrLimit, 20000)
	refuses(t, strings.Repeat(" ", 20000), api.ErrEnd, 20000)
	refuses(t, "module m;"+strings.Repeat("\n", 19992), api.ErrLimit, 20000)
	reads(t, "module m;"+strings.Repeat("\n", 19991), api.Module{Name: "m"})
}

// P0.1, P2.1: as many tokens, and as deep, as the lexer lets through.
func TestLongModules(t *testing.T) {
	m, err, _ := Parse("module m;" + strings.Repeat("trait T;", 1999))
	if err != api.OK || len(m.Traits) != 1999 {
		t.Error(err, len(m.Traits))
	}
	refuses(t, "module m;"+strings.Repeat("trait T;", 1998)+"trait", api.ErrEnd, 9+8*1998+5)
	refuses(t, "module m;"+strings.Repeat("trait T;", 1999)+"trait", api.ErrLimit, 9+8*1999)
	for _, c := range []struct {
		text  string
		depth int
	}{
		{"module m; fn f() -> Int {" + strings.Repeat("if a{", 1490) + strings.Repeat("}", 1490) + "}", 1490},
		{"module m; fn f() -> Int {" + strings.Repeat("match a{v{", 850) + strings.Repeat("}}", 850) + "}", 850},
		{"module m; fn f() -> Int {" + strings.Repeat("fn g[]()->T{", 590) + strings.Repeat("}", 590) + "}", 590},
	} {
		m, err, at := Parse(c.text)
		if err != api.OK || depth(m.Funcs[0].Body) != c.depth {
			t.Errorf("%.60s: error %d at %d", c.text, err, at)
		}
	}
	for _, text := range []string{strings.Repeat("&", 5900) + "T", strings.Repeat("Box<", 1900) + "Int" + strings.Repeat(">", 1900), strings.Repeat("p<", 1900) + "Int" + strings.Repeat(">", 1900)} {
		m, err, at := Parse(inType + text + " { }")
		n := 0
		for x := m.Funcs[0].Result; len(x.Args) == 1; x = x.Args[0] {
			n++
		}
		if err != api.OK || n != 1900 && n != 5900 {
			t.Errorf("%.60s: error %d at %d, depth %d", text, err, at, n)
		}
	}
	refuses(t, inType+strings.Repeat("&", 5900), api.ErrEnd, len(inType)+5900)
	refuses(t, inBlock+strings.Repeat("if a{", 1990), api.ErrEnd, len(inBlock)+5*1990)
}

// P0.1: a panic that is no failure does not get out of reading either.
func TestOtherPanics(t *testing.T) {
	text := inBlock + "panic; return x; }"
	tokens, _, _ := lexer.Lex(text)
	for _, cause := range []any{"defect", 5, fmt.Errorf("defect"), api.ErrEnd} {
		r := newReader(tokens, len(text))
		r.statements["return"] = statement{api.StReturn, func(*reader, *api.Stmt) { panic(cause) }}
		if m, err, at := r.read(); show(m) != show(api.Module{}) || err != api.ErrSyntax || at != strings.Index(text, "x;") {
			t.Errorf("%v: %s, error %d at %d", cause, show(m), err, at)
		}
	}
}

func depth(l []api.Stmt) int {
	most := 0
	for _, s := range l {
		most = max(most, 1+depth(s.Then))
		for _, a := range s.Arms {
			most = max(most, 1+depth(a.Body))
		}
		for _, f := range s.Func {
			most = max(most, 1+depth(f.Body))
		}
	}
	return most
}
