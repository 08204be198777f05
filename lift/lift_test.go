package lift

import (
	"strings"
	"testing"

	"leasehold/api"
	"leasehold/check"
	"leasehold/resolve"
)

// tour has all kinds of items and statements, and local functions in all blocks.
const tour = `use lib; use other;
data List<T> { nil, cons(T, Box<List<T>>) } drop 5; data D { d(Int) } drop panic;
trait Show; trait Size;
impl Show for Int = show; impl<T> Show for List<T> where T: Show, T: Size = shows;
fn f<T, U>(a: T, b: &Arena, c: List<U>, n: Int) -> Box<T> where T: Show, U: Size, T: Size {
  let d: Int = 5; d = n + d; *b = c; send c d; drop a; print n; let e = chan List<T>;
  fn g[move a: T, &c: List<U>, &!d: Int](x: Box<U>) -> Int { fn h[&!x: Box<U>]() -> Int { return n; } let y = h(); spawn h(); return y; }
  if n { fn g[](x: Int) -> Int { return x; } let k = g(n); } else { let k = g(n); spawn g(n); }
  while n { d = g(n); n = g(d); }
  match c { nil { fn k[&n: Int, &d: Int]() -> Int { } d = k(); panic; } cons(h, t) { d = g(t); return a; } }
}
fn show(x: &Int) -> Int { let y = *x; return y; }`

// P9.1: the chapter's example.
func TestExample(t *testing.T) {
	lifts(t, "fn f(y: Int) -> Int { fn g[move y: Int, &z: D](x: Int) -> Int { return x; } let r = g(y); return r; }",
		"fn f(y: Int) -> Int { let g_z = &z; let r = f_0_g(y, g_z, y); return r; } fn f_0_g(y: Int, z: &D, x: Int) -> Int { return x; }")
}

// P9.1: names are joined by dots.
func TestDots(t *testing.T) {
	lifted, _, _ := Lift(read(t, "fn f(y: Int) -> Int { fn g[&!y: Int]() -> Int { fn h[]() -> Int { } } let r = g(); }"))
	call := lifted.Funcs[0].Body[1].Expr
	if names := lifted.Funcs[0].Body[0].Name + " " + call.Name + " " + call.Names[0] + " " + lifted.Funcs[1].Name + " " + lifted.Funcs[2].Name; names != "g.y f.0.g g.y f.0.g f.0.g.0.h" {
		t.Error(names)
	}
}

// P9.1, P9.2: everything that stays as it is.
func TestNothingToLift(t *testing.T) {
	for _, items := range []string{"", "use n; data D { d(Box<Int>) } drop 3; trait Show; impl Show for D = f;", "fn f<T>(a: &T) -> Int where T: Show { let x = g(a); spawn g(x, a); if x { while a { print x; } } else { match a { v(b) { x = g(); } } } }"} {
		lifts(t, items, items)
	}
	var every []api.Stmt
	for kind := -1; kind < 16; kind++ {
		if kind != api.StFunc {
			inner := []api.Stmt{{Kind: kind, Name: "x", Names: []string{"y", "z"}}}
			every = append(every, api.Stmt{Kind: kind, Name: "f", Names: []string{"a"}, Type: []api.TypeExpr{{Name: "T"}, {}}, Expr: api.Expr{Kind: api.ExCall, Op: "+", Name: "f", Variant: "v", Names: []string{"b"}, Number: 3, Type: []api.TypeExpr{{Name: "U", Offset: 5}}, Offset: 6}, Then: inner, Else: inner, Arms: []api.ArmDef{{Variant: "v", Names: []string{"c"}, Body: inner, Offset: 7}}, Offset: kind})
		}
	}
	m := api.Module{Name: "", Uses: []string{"", "x"}, Funcs: []api.FuncDef{{Name: "f", Params: []string{"T", "T", ""}, Bounds: []api.BoundDef{{Param: "X", Trait: "Y", Offset: 3}}, Args: []api.ArgDef{{Name: "a", Capture: 7, Offset: 2}, {Name: "a"}}, Body: every, Offset: -4}, {Name: "f"}}}
	if got := checkLift(t, m); got != "OK" {
		t.Error(got)
	}
	if lifted, _, _ := Lift(m); !equal(lifted, m) {
		t.Errorf("%+v", lifted)
	}
	if got := checkLift(t, api.Module{}); got != "OK" {
		t.Error(got)
	}
}

// P9.1: where a local function is visible, and which one a name means.
func TestVisible(t *testing.T) {
	lifts(t, "fn f(n: Int) -> Int { let a = g(n); fn g[](x: Int) -> Int { let b = g(x); } let a = g(n); } fn g(x: Int) -> Int { let a = g(x); }",
		"fn f(n: Int) -> Int { let a = g(n); let a = f_0_g(n); } fn g(x: Int) -> Int { let a = g(x); } fn f_0_g(x: Int) -> Int { let b = g(x); }")
	// behind its block
	lifts(t, "fn f(n: Int) -> Int { if n { fn g[]() -> Int { } a = g(); } else { a = g(); } a = g(); while n { a = g(); fn g[]() -> Int { } } spawn g(); match n { v { fn g[]() -> Int { } spawn g(); } w { spawn g(); } } spawn g(); }",
		"fn f(n: Int) -> Int { if n { a = f_0_g(); } else { a = g(); } a = g(); while n { a = g(); } spawn g(); match n { v { spawn f_2_g(); } w { spawn g(); } } spawn g(); } fn f_0_g() -> Int { } fn f_1_g() -> Int { } fn f_2_g() -> Int { }")
	// in blocks inside, with one in between that has the same name
	lifts(t, "fn f(n: Int) -> Int { fn g[move n: Int]() -> Int { } if n { while n { a = g(); fn g[]() -> Int { } a = g(); } a = g(); } else { fn g[&n: Int]() -> Int { } match n { v { a = g(); } w(g) { a = g(); } } } a = g(); fn g[](x: Int) -> Int { } a = g(n); }",
		"fn f(n: Int) -> Int { if n { while n { a = f_0_g(n); a = f_1_g(); } a = f_0_g(n); } else { match n { v { let g_n = &n; a = f_2_g(g_n); } w(g) { let g_n = &n; a = f_2_g(g_n); } } } a = f_0_g(n); a = f_3_g(n); } fn f_0_g(n: Int) -> Int { } fn f_1_g() -> Int { } fn f_2_g(n: &Int) -> Int { } fn f_3_g(x: Int) -> Int { }")
	// the same name three times in one block, and again behind a block that hides it twice
	lifts(t, "fn f(n: Int) -> Int { fn g[]() -> Int { } a = g(); fn g[]() -> Int { } a = g(); if n { fn g[]() -> Int { } fn g[]() -> Int { } a = g(); } a = g(); }",
		"fn f(n: Int) -> Int { a = f_0_g(); a = f_1_g(); if n { a = f_3_g(); } a = f_1_g(); } fn f_0_g() -> Int { } fn f_1_g() -> Int { } fn f_2_g() -> Int { } fn f_3_g() -> Int { }")
	// not in the bodies of other local functions
	lifts(t, "fn f(n: Int) -> Int { fn g[]() -> Int { } fn h[]() -> Int { a = g(); a = h(); fn k[]() -> Int { a = g(); a = h(); a = k(); } a = k(); if n { a = k(); a = g(); } } a = g(); a = h(); a = k(); }",
		"fn f(n: Int) -> Int { a = f_0_g(); a = f_1_h(); a = k(); } fn f_0_g() -> Int { } fn f_1_h() -> Int { a = g(); a = h(); a = f_1_h_0_k(); if n { a = f_1_h_0_k(); a = g(); } } fn f_1_h_0_k() -> Int { a = g(); a = h(); a = k(); }")
	// not in another function of the module
	lifts(t, "fn f() -> Int { fn g[]() -> Int { } } fn h() -> Int { spawn g(); }", "fn f() -> Int { } fn h() -> Int { spawn g(); } fn f_0_g() -> Int { }")
}

// P9.1: numbers, names and the order of lifted functions.
func TestNumbers(t *testing.T) {
	lifts(t, "fn f(n: Int) -> Int { fn a[]() -> Int { fn b[]() -> Int { fn c[]() -> Int { } } fn d[]() -> Int { } } if n { fn e[]() -> Int { } } else { while n { fn g[]() -> Int { } } fn h[]() -> Int { } } match n { v { fn i[]() -> Int { } } w { fn j[]() -> Int { fn a[]() -> Int { } } } } fn a[]() -> Int { } } fn k() -> Int { fn a[]() -> Int { } fn a[]() -> Int { } }",
		"fn f(n: Int) -> Int { if n { } else { while n { } } match n { v { } w { } } } fn k() -> Int { } fn f_0_a() -> Int { } fn f_0_a_0_b() -> Int { } fn f_0_a_0_b_0_c() -> Int { } fn f_0_a_1_d() -> Int { } fn f_1_e() -> Int { } fn f_2_g() -> Int { } fn f_3_h() -> Int { } fn f_4_i() -> Int { } fn f_5_j() -> Int { } fn f_5_j_0_a() -> Int { } fn f_6_a() -> Int { } fn k_0_a() -> Int { } fn k_1_a() -> Int { }")
	many := read(t, "fn f() -> Int { "+strings.Repeat("fn g[]() -> Int { } ", 12)+"spawn g(); }")
	if lifted, _, _ := Lift(many); lifted.Funcs[12].Name != "f.11.g" || lifted.Funcs[0].Body[0].Name != "f.11.g" {
		t.Errorf("%+v", lifted)
	}
}

// P9.1: captures of all kinds, and what is done for them at each statement that calls.
func TestCaptures(t *testing.T) {
	lifts(t, "fn f(a: Int, b: D, c: D, d: D, e: Box<D>) -> Int { fn g[&b: D, move a: Int, &!c: Box<D>, &d: &D, move e: Box<D>](x: Int, y: Int) -> Int { } let r = g(a, a); r = g(); spawn g(b); if a { let s: Int = g(a); } }",
		"fn f(a: Int, b: D, c: D, d: D, e: Box<D>) -> Int { let g_b = &b; let g_c = &!c; let g_d = &d; let r = f_0_g(g_b, a, g_c, g_d, e, a, a); let g_b = &b; let g_c = &!c; let g_d = &d; r = f_0_g(g_b, a, g_c, g_d, e); let g_b = &b; let g_c = &!c; let g_d = &d; spawn f_0_g(g_b, a, g_c, g_d, e, b); if a { let g_b = &b; let g_c = &!c; let g_d = &d; let s: Int = f_0_g(g_b, a, g_c, g_d, e, a); } } fn f_0_g(b: &D, a: Int, c: &!Box<D>, d: & &D, e: Box<D>, x: Int, y: Int) -> Int { }")
	// a local function in a local one passes what this has captured
	lifts(t, "fn f(n: Int) -> Int { fn g[&n: Int](x: Int) -> Int { fn h[move n: &Int, &!x: Int]() -> Int { } let r = h(); return r; } let r = g(n); return r; }",
		"fn f(n: Int) -> Int { let g_n = &n; let r = f_0_g(g_n, n); return r; } fn f_0_g(n: &Int, x: Int) -> Int { let h_x = &!x; let r = f_0_g_0_h(n, h_x); return r; } fn f_0_g_0_h(n: &Int, x: &!Int) -> Int { }")
	// captures that are none of the constants are moved
	m := read(t, "fn f() -> Int { fn g[&a: Int, &b: D, &!c: Int](x: Int) -> Int { } spawn g(n); }")
	for i, capture := range []int{3, -1, 99} {
		m.Funcs[0].Body[0].Func[0].Captures[i].Capture = capture
	}
	if got := checkLift(t, m); got != "OK" {
		t.Error(got)
	}
	lifted, _, _ := Lift(m)
	if got, want := text(t, lifted), text(t, read(t, "fn f() -> Int { spawn f_0_g(a, b, c, n); } fn f_0_g(a: Int, b: D, c: Int, x: Int) -> Int { }")); got != want {
		t.Errorf("got\n%s\nwant\n%s", got, want)
	}
}

// P9.1: names that are replaced in no other place.
func TestOtherNames(t *testing.T) {
	lifts(t, "fn f(g: Int) -> Int { fn g[move a: Int]() -> Int { } let g = g; let x = g + g; let x = new g.g(g); let x = box g; let x = &g; let x = &!g; let x = g.0; let x = *g; let x = g::g; let x = chan g; let x = recv g; g = g; *g = g; if g { } while g { } match g { g(g) { } } return g; drop g; print g; send g g; g = g(g); let g: g = g(); spawn g(g, g); }",
		"fn f(g: Int) -> Int { let g = g; let x = g + g; let x = new g.g(g); let x = box g; let x = &g; let x = &!g; let x = g.0; let x = *g; let x = g::g; let x = chan g; let x = recv g; g = g; *g = g; if g { } while g { } match g { g(g) { } } return g; drop g; print g; send g g; g = f_0_g(a, g); let g: g = f_0_g(a); spawn f_0_g(a, g, g); } fn f_0_g(a: Int) -> Int { }")
	// calls in statements of other Kinds stay, and so do other expressions with Name
	local := read(t, "fn f() -> Int { fn g[&a: Int]() -> Int { } }").Funcs[0].Body[0]
	body := []api.Stmt{local}
	for kind := -1; kind < 16; kind++ {
		if kind != api.StLet && kind != api.StSet && kind != api.StFunc && kind != api.StSpawn {
			body = append(body, api.Stmt{Kind: kind, Name: "g", Names: []string{"g"}, Expr: api.Expr{Kind: api.ExCall, Name: "g", Names: []string{"g"}}})
		}
	}
	for kind := -1; kind < 23; kind++ {
		if kind != api.ExCall {
			body = append(body, api.Stmt{Kind: api.StLet, Name: "g", Names: []string{"g"}, Expr: api.Expr{Kind: kind, Name: "g", Names: []string{"g"}}})
		}
	}
	lifted, err, at := Lift(api.Module{Funcs: []api.FuncDef{{Name: "f", Body: body}}})
	if err != api.OK || !equal(lifted.Funcs[0].Body, body[1:]) {
		t.Errorf("%s: %+v", outcome(err, at), lifted)
	}
	// a spawn keeps its expression
	spawn := api.Stmt{Kind: api.StSpawn, Name: "x", Expr: api.Expr{Kind: api.ExCall, Name: "g"}}
	if lifted, _, _ = Lift(api.Module{Funcs: []api.FuncDef{{Name: "f", Body: []api.Stmt{local, spawn}}}}); !equal(lifted.Funcs[0].Body, []api.Stmt{spawn}) {
		t.Errorf("%+v", lifted)
	}
}

// P9.1: blocks in statements that need none are lifted like others, Then before Else before arms.
func TestBlocksOfOtherStatements(t *testing.T) {
	part := read(t, "fn f() -> Int { fn g[&a: Int]() -> Int { } spawn g(); }").Funcs[0].Body
	s := api.Stmt{Kind: api.StLet, Name: "x", Expr: api.Expr{Kind: api.ExCall, Name: "g"}, Then: part, Else: part, Arms: []api.ArmDef{{Body: part}, {Body: part}}}
	m := api.Module{Name: "m", Funcs: []api.FuncDef{{Name: "f", Body: append(part[:1:1], s)}}}
	if got := checkLift(t, m); got != "OK" {
		t.Error(got)
	}
	lifted, _, _ := Lift(m)
	body := lifted.Funcs[0].Body
	calls := body[1].Expr.Name + " " + body[1].Then[1].Name + " " + body[1].Else[1].Name + " " + body[1].Arms[0].Body[1].Name + " " + body[1].Arms[1].Body[1].Name
	if calls != "f.0.g f.1.g f.2.g f.3.g f.4.g" {
		t.Error(calls)
	}
}

// P9.1: which parameters and bounds a lifted function has.
func TestGenerics(t *testing.T) {
	const head = "fn f<P, Q, R>(a: P, b: Q, c: R) -> Int where R: T, P: U, Q: V, P: W "
	const p, q, r = "P: U, P: W", "Q: V", "R: T"
	for _, test := range []struct{ local, params, bounds string }{
		{"[](x: Int) -> Int { }", "", ""},
		{"[move a: P]() -> Int { }", "<P>", p},
		{"[&a: P]() -> Int { }", "<P>", p},
		{"[](a: Box<List<Q, Int>>) -> Int { }", "<Q>", q},
		{"[]() -> &!R { }", "<R>", r},
		{"[move c: R](b: &Q) -> Int { }", "<Q, R>", r + ", " + q},
		{"[]() -> Int { let x: Chan<P> = y; }", "<P>", p},
		{"[]() -> Int { x = chan Box<R>; }", "<R>", r},
		{"[]() -> Int { if x { let y: P = z; } else { while x { let y: Q = z; } } }", "<P, Q>", "P: U, Q: V, P: W"},
		{"[]() -> Int { match x { v { } w { let y: R = z; } } }", "<R>", r},
		{"[]() -> P<Q> { }", "<P, Q>", "P: U, Q: V, P: W"},
		// names that are no types do not count
		{"[](P: Int) -> Int { let Q = P(Q); spawn R(P); let x = new P.Q(R); let x = P::Q; match P { Q(R) { } } }", "", ""},
	} {
		args, body, _ := strings.Cut(test.local, " -> ")
		captures, args, _ := strings.Cut(args[1:], "](")
		captures = strings.NewReplacer("move a: P", "a: P", "&a: P", "a: &P", "move c: R", "c: R").Replace(captures)
		if captures != "" && args != ")" {
			captures += ", "
		}
		where := ""
		if test.bounds != "" {
			where = " where " + test.bounds
		}
		result, rest, _ := strings.Cut(body, " {")
		lifts(t, head+"{ fn g"+test.local+" }", head+"{ } fn f_0_g"+test.params+"("+captures+args+" -> "+result+where+" {"+rest)
	}
	// what inner local functions mention counts for those around them
	lifts(t, head+"{ fn g[]() -> Int { fn h[move b: Q]() -> Int { } fn k[]() -> Int { fn l[]() -> P { } let x: R = y; } } fn m[]() -> Int { } }",
		head+"{ } fn f_0_g<P, Q, R>() -> Int where R: T, P: U, Q: V, P: W { } fn f_0_g_0_h<Q>(b: Q) -> Int where Q: V { } fn f_0_g_1_k<P, R>() -> Int where R: T, P: U, P: W { let x: R = y; } fn f_0_g_1_k_0_l<P>() -> P where P: U, P: W { } fn f_1_m() -> Int { }")
	// each function of the module has its own parameters
	lifts(t, "fn f<P>() -> Int where P: T { fn g[]() -> Q { } fn h[]() -> P { } } fn g<Q, P>() -> Int where Q: T { fn g[]() -> Q { } fn h[]() -> P { } }",
		"fn f<P>() -> Int where P: T { } fn g<Q, P>() -> Int where Q: T { } fn f_0_g() -> Q { } fn f_1_h<P>() -> P where P: T { } fn g_0_g<Q>() -> Q where Q: T { } fn g_1_h<P>() -> P { }")
}

// P9.1: parameters of local functions, parameters with one name, bounds of none, names of types that are symbols, and types in the statement of a local function.
func TestOddGenerics(t *testing.T) {
	ty := func(name string) api.TypeExpr { return api.TypeExpr{Name: name} }
	g := api.FuncDef{Name: "g", Params: []string{"Z", "P"}, Bounds: []api.BoundDef{{Param: "P", Trait: "own"}}, Captures: []api.ArgDef{{Name: "a", Capture: api.CaptureShared, Type: ty("D")}}, Result: ty("P")}
	inner := api.FuncDef{Name: "h", Result: ty("")}
	s := api.Stmt{Kind: api.StFunc, Func: []api.FuncDef{inner}, Type: []api.TypeExpr{ty("Q")}, Expr: api.Expr{Type: []api.TypeExpr{ty("R")}}}
	outer := api.FuncDef{Name: "k", Body: []api.Stmt{s}, Result: ty("Int")}
	f := api.FuncDef{Name: "f", Params: []string{"R", "&", "P", "Q", "P", ""}, Bounds: []api.BoundDef{{Param: "Z", Trait: "z"}, {Param: "P", Trait: "1"}, {Param: "&", Trait: "2"}, {Param: "Q", Trait: "3"}, {Param: "P", Trait: "4"}, {Param: "", Trait: "5"}}, Result: ty("Int")}
	f.Body = []api.Stmt{{Kind: api.StFunc, Func: []api.FuncDef{g}}, {Kind: api.StFunc, Func: []api.FuncDef{outer}}}
	m := api.Module{Name: "m", Funcs: []api.FuncDef{f}}
	if got := checkLift(t, m); got != "OK" {
		t.Error(got)
	}
	lifted, _, _ := Lift(m)
	for i, want := range []string{"R,&,P,Q,P, z12345", "P,P 14", "R,Q, 35", " 5"} {
		got := strings.Join(lifted.Funcs[i].Params, ",") + " "
		for _, b := range lifted.Funcs[i].Bounds {
			got += b.Trait
		}
		if got != want {
			t.Errorf("%d: %s, want %s", i, got, want)
		}
	}
}

// P9.1: the offsets of what is new.
func TestOffsets(t *testing.T) {
	const items = "fn f(y: Int) -> Int { if y { fn g[move y: Int, &z: D, &!w: Box<D>](x: Int) -> Box<Int> { return x; } let r = g(y); } }"
	lifted, _, _ := Lift(read(t, items))
	at := func(s string) int { return len("module m; ") + strings.Index(items, s) }
	g, block := lifted.Funcs[1], lifted.Funcs[0].Body[0].Then
	expression := block[2].Expr
	for i, x := range [][2]int{
		{g.Offset, at("fn g")}, {g.Result.Offset, at("Box<Int>")}, {g.Body[0].Offset, at("return")},
		{g.Args[0].Offset, at("move")}, {g.Args[0].Type.Offset, at("Int, &z")},
		{g.Args[1].Offset, at("&z")}, {g.Args[1].Type.Offset, at("D, ")}, {g.Args[1].Type.Args[0].Offset, at("D, ")},
		{g.Args[2].Offset, at("&!w")}, {g.Args[2].Type.Offset, at("Box<D>")}, {g.Args[2].Type.Args[0].Offset, at("Box<D>")}, {g.Args[2].Type.Args[0].Args[0].Offset, at("D>")},
		{g.Args[3].Offset, at("x: Int")}, {g.Args[3].Type.Offset, at("Int) -> Box")},
		{block[0].Offset, at("let r")}, {block[0].Expr.Offset, at("let r")}, {block[1].Offset, at("let r")}, {block[1].Expr.Offset, at("let r")},
		{block[2].Offset, at("let r")}, {expression.Offset, at("g(y)")},
	} {
		if x[0] != x[1] {
			t.Errorf("%d: %d, want %d", i, x[0], x[1])
		}
	}
	if g.Args[0].Capture+g.Args[1].Capture+g.Args[2].Capture+g.Args[3].Capture != 0 || len(g.Captures) > 0 {
		t.Errorf("%+v", g)
	}
}

// P9.1: the text of a whole module.
func TestTour(t *testing.T) {
	lifts(t, tour, `use lib; use other;
data List<T> { nil, cons(T, Box<List<T>>) } drop 5; data D { d(Int) } drop panic;
trait Show; trait Size;
impl Show for Int = show; impl<T> Show for List<T> where T: Show, T: Size = shows;
fn f<T, U>(a: T, b: &Arena, c: List<U>, n: Int) -> Box<T> where T: Show, U: Size, T: Size {
  let d: Int = 5; d = n + d; *b = c; send c d; drop a; print n; let e = chan List<T>;
  if n { let k = f_1_g(n); } else { let g_c = &c; let g_d = &!d; let k = f_0_g(a, g_c, g_d, n); let g_c = &c; let g_d = &!d; spawn f_0_g(a, g_c, g_d, n); }
  while n { let g_c = &c; let g_d = &!d; d = f_0_g(a, g_c, g_d, n); let g_c = &c; let g_d = &!d; n = f_0_g(a, g_c, g_d, d); }
  match c { nil { let k_n = &n; let k_d = &d; d = f_2_k(k_n, k_d); panic; } cons(h, t) { let g_c = &c; let g_d = &!d; d = f_0_g(a, g_c, g_d, t); return a; } }
}
fn show(x: &Int) -> Int { let y = *x; return y; }
fn f_0_g<T, U>(a: T, c: &List<U>, d: &!Int, x: Box<U>) -> Int where T: Show, U: Size, T: Size { let h_x = &!x; let y = f_0_g_0_h(h_x); let h_x = &!x; spawn f_0_g_0_h(h_x); return y; }
fn f_0_g_0_h<U>(x: &!Box<U>) -> Int where U: Size { return n; }
fn f_1_g(x: Int) -> Int { return x; }
fn f_2_k(n: &Int, d: &Int) -> Int { }`)
}

// T1: lifted modules can be checked further, with names that have dots.
func TestLiftedModulesAreChecked(t *testing.T) {
	lifted, err, at := Lift(read(t, `data List<T> { nil, cons(T, Box<List<T>>) }; data D { d(Int, Box<Int>) } drop 5;
trait Size; fn size(x: &Int) -> Int { let y = *x; return y; } impl Size for Int = size;
fn length<T>(l: List<T>, n: Int) -> Int where T: Size {
  fn more[&n: Int](x: T, k: Int) -> Int { let r = &x; let s = Size::r; let m = *n; m = m + s; m = m + k; return m; }
  match l { nil { return n; } cons(x, b) { let k = n; let m = more(x, k); let t = unbox b; let o = length(t, m); return o; } }
}
fn main() -> Int {
  let n = 1; let b = box n; let d = new D.d(n, b);
  fn set[&!d: D, move n: Int](k: Int) -> Int { fn first[move d: &!D]() -> &!Int { let r = d.0; return r; } let r = first(); *r = k; return n; }
  let m = set(n); n = set(m); fn quiet[move n: Int]() -> Int { return n; } spawn quiet(); drop d; return n;
}`))
	if err != api.OK {
		t.Fatal(outcome(err, at))
	}
	p, err, where := resolve.Tables([]api.Module{lifted})
	if err != api.OK {
		t.Fatal(err, where)
	}
	for i, f := range lifted.Funcs {
		if _, err, at := check.Body(p, i, f); err != api.OK {
			t.Errorf("%s: error %d at %d", f.Name, err, at)
		}
	}
}
