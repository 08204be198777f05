package check

import (
	"slices"
	"strconv"
	"strings"
	"testing"

	"leasehold/api"
)

// boxes writes an integer in n boxes as it stands in a source.
func boxes(n int) string { return strings.Repeat("Box<", n) + "Int" + strings.Repeat(">", n) }

// P7.1: of several errors, the first one in the order of the chapter.
func TestOrderOfErrors(t *testing.T) {
	runBodyTests(t, []bodyTest{
		// the annotation, the limit of locals and the expression, one after the other
		{"fn f() -> Int { let n: @Nope = 1 ; let m: Nope = x; }", "!name"},
		{"fn f() -> Int { let n: Int = @x; let m: Nope = 1; }", "!name"},
		// Names before Types
		{"fn f(a: Box<Int>) -> Int { a = @a + x; }", "!name"},
		{"fn f(a: Box<Int>) -> Int { @*a = x; }", "!name"},
		{"fn f(a: Box<Int>) -> Int { @send a x; }", "!name"},
		{"fn f(a: Box<Int>) -> Int { @*x = a; }", "!name"},
		{"fn f(a: Int) -> Int { a = @alloc a x; }", "!name"},
		{"fn f(a: Int) -> Int { a = @alloc x a; }", "!name"},
		{"fn f(a: Int) -> Int { a = @new Map.map(a, x); }", "!name"},
		{"fn f(a: Int) -> Int { let b = @both(a, x); }", "!name"},
		{"fn f(a: Int) -> Int { @spawn both(a, x); }", "!name"},
		{"fn f(a: Int) -> Int { let b = @pick(a, x); }", "!name"},
		{"fn f(a: Int) -> Int { @spawn pick(a, x); }", "!name"},
		{"fn f(a: Int, b: Box<Int>) -> Int { let b = @new Pair.pair(b, x); }", "!name"},
		// data type, variant and number of fields before Names
		{"fn f(a: Int) -> Int { a = @new Nope.map(x, y); }", "!name"},
		{"fn f(a: Int) -> Int { a = @new Map.map(x); }", "!type"},
		{"fn f(a: Int) -> Int { a = @new Map.nope(x); }", "!name"},
		{"fn f(a: Int) -> Int { a = @both(x); }", "!type"},
		{"fn f(a: Int) -> Int { @spawn both(x); }", "!type"},
		{"fn f(a: Int) -> Int { a = @Nope::x; }", "!name"},
		// a call before what spawn needs of it
		{"fn f(a: Int) -> Int { @spawn ref(x); }", "!name"},
		// the variable of a set before the expression
		{"fn f(a: Int) -> Int { @x = 1 ; }", "!name"},
		{"fn f(a: Int) -> Int { @x = y; }", "!name"},
		// the statement before its blocks, then before else, arms in their order
		{"fn f(a: Box<Int>) -> Int { @if a { print x; } }", "!type"},
		{"fn f(a: Int) -> Int { if a { @print x; } else { drop a; } }", "!name"},
		{"fn f(a: Box<Int>) -> Int { @while a { print x; } }", "!type"},
		{"fn f(a: Two) -> Int { match a { right { @print x; } nope { } } }", "!name"},
		{"fn f(a: Two) -> Int { match a { @nope { print x; } right { drop x; } } }", "!name"},
		{"fn f(a: Two) -> Int { match a { right { @print x; } right { } } }", "!name"},
		{"fn f(a: List<Int>) -> Int { match a { nil { } @nil(x, x) { } } }", "!twice"},
		{"fn f(a: List<Int>) -> Int { match a { @cons(x, x, x) { print y; } } }", "!type"},
		{"fn f(a: List<Int>) -> Int { match a { @cons(x, x) { print y; } } }", "!twice"},
		{"fn f(a: Two) -> Int { @match a { left(x) { let y = x; } } drop a; let z = new List.nil; }", "!match"},
		// all statements before the end, in which the locals are before the lists of types
		{"fn f(a: Int) -> Int { let l = new List.nil; @drop a; }", "!type"},
		{"fn f(a: Int) -> Int { let n = need(a); @print x; }", "!name"},
		{"fn f(a: Int) -> Int { let n = need(a); @let l = new List.nil; }", "!type"},
		{"fn f(a: Int) -> Int { let n = none(); @let l = new List.nil; }", "!type"},
		{"fn f(a: Int) -> Int { let n = @none(); let m = need(a); }", "!type"},
		{"fn f(a: Int) -> Int { let n = @need(a); let m = none(); }", "!trait"},
		{"fn f(a: &Int) -> Int { let m = @Size::a; let n = none(); }", "!trait"},
		{"fn f(a: &Int, b: Int) -> Int { let n = @need(b); let m = Size::a; }", "!trait"},
		{"fn f(a: &Int, b: Int) -> Int { let m = @Size::a; let n = need(b); }", "!trait"},
	})
}

// P7.1: what a step needs to be known is not yet known, though a later statement would make it known.
func TestKnownTooLate(t *testing.T) {
	runBodyTests(t, []bodyTest{
		{"fn f(n: Int, p: Pair) -> Int { let l = new List.nil; match l { nil { panic; } cons(x, y) { @drop x; x = p; } } }", "!type"},
		{"fn f(n: Int, p: Pair) -> Int { let l = new List.nil; match l { nil { panic; } cons(x, y) { x = p; drop x; } } }",
			"Int D2 D1(D2) D2 Box(D1(D2)) | make d2 n1 <D2>; match a2 {open a2; panic} {open a2 b1 [3 4]; take d3 a1; drop a3}"},
		{"fn f(n: Int, p: Two) -> Int { let l = new List.nil; match l { nil { } cons(x, y) { @match x { right { } } x = p; } } }", "!type"},
		{"fn f(n: Int, p: Pair) -> Int { let l = new List.nil; match l { nil { } cons(x, y) { let r = &x; let s = @r.0; x = p; } } }", "!type"},
		{"fn f(n: Int, p: Pair) -> Int { let l = new List.nil; match l { nil { } cons(x, y) { let r = &x; x = p; let s = r.0; } } }",
			"Int D2 D1(D2) D2 Box(D1(D2)) Shared(D2) Shared(Int) Shared(Int) Shared(Box(Int)) | make d2 n1 <D2>; match a2 {open a2} {open a2 b1 [3 4]; loan d5 a3; take d3 a1; split a5 [7 8]; take d6 a7}"},
		{"fn f(n: Int) -> Int { let l = new List.nil; match l { nil { } cons(x, y) { let r = &x; let s = @*r; x = n; } } }", "!type"},
		{"fn f(n: Int) -> Int { let l = new List.nil; match l { nil { } cons(x, y) { let r = &!x; x = n; let s = *r; } } }",
			"Int D1(Int) Int Box(D1(Int)) Excl(Int) Int | make d1 n1 <Int>; match a1 {open a1} {open a1 b1 [2 3]; loan d4 a2; take d2; load d5 a4}"},
		{"fn f(n: Int, b: &Int) -> Int { let l = new List.nil; match l { nil { } cons(x, y) { let s = @&*x; x = b; } } }", "!type"},
		{"fn f(n: Int, b: &!Int) -> Int { let l = new List.nil; match l { nil { } cons(x, y) { let s = @&!*x; x = b; } } }", "!type"},
		{"fn f(n: Int, b: &Box<Int>) -> Int { let l = new List.nil; match l { nil { } cons(x, y) { let s = @&in x; x = b; } } }", "!type"},
		// what is behind a reference need not be known
		{"fn f(n: Int) -> Int { let l = new List.nil; match l { nil { } cons(x, y) { let r = &!x; let s = &*r; let u = &!*r; x = n; } } }",
			"Int D1(Int) Int Box(D1(Int)) Excl(Int) Shared(Int) Excl(Int) | make d1 n1 <Int>; match a1 {open a1} {open a1 b1 [2 3]; loan d4 a2; re d5 a4; re d6 a4; take d2}"},
		{"fn f(n: Box<Int>) -> Int { let l = new List.nil; match l { nil { } cons(x, y) { let r = &!x; let s = &in r; let u = &!in r; x = n; } } }",
			"Box(Int) D1(Box(Int)) Box(Int) Box(D1(Box(Int))) Excl(Box(Int)) Shared(Int) Excl(Int) | make d1 n1 <Box(Int)>; match a1 {open a1} {open a1 b1 [2 3]; loan d4 a2; in d5 a4; in d6 a4; take d2}"},
	})
}

// P7.1: types that are too deep. The error is ErrLimit also where unify.Unify has ErrArg, which is before its ErrType.
func TestTooDeep(t *testing.T) {
	deepest := boxes(7)
	runBodyTests(t, []bodyTest{
		{"fn f(a: " + deepest + ") -> Int { let b = @box a; }", "!limit"},
		{"fn f(a: " + deepest + ", b: Int) -> Int { b = @box a; }", "!limit"},
		{"fn f(a: " + deepest + ", b: Int) -> Int { b = @&a; }", "!limit"},
		{"fn f(a: " + deepest + ") -> Int { let c = a; let b = @box c; }", "!limit"},
		{"fn f(a: " + deepest + ", b: Int) -> Int { let c = a; b = @box c; }", "!type"},
		{"fn f(a: " + deepest + ", b: &Int) -> Int { let c = a; b = @&c; }", "!type"},
		{"fn f(a: " + deepest + ", b: Int) -> Int { @*b = a; }", "!limit"},
		{"fn f(a: " + deepest + ", b: Int) -> Int { @send b a; }", "!limit"},
		{"fn f(a: " + deepest + ", b: Int) -> Int { a = @unbox b; }", "!limit"},
		{"fn f(a: " + deepest + ", b: Int) -> Int { a = @recv b; }", "!limit"},
		{"fn f(a: " + deepest + ", b: &Arena) -> Int { let c = @alloc b a; }", "!limit"},
		{"fn f(a: Int) -> Int { let c = @chan " + deepest + "; }", "!limit"},
		{"fn f(a: " + deepest + ", b: Pair) -> Int { let c = @new Map.map(b, a); }", "!type"},
		{"fn f(a: " + boxes(6) + ", b: Chan<Int>) -> Int { let c = new Map.map(a, b); }", strings.Repeat("Box(", 6) + "Int" + strings.Repeat(")", 6) + " Chan(Int) D3(" + strings.Repeat("Box(", 6) + "Int" + strings.Repeat(")", 6) + ",Int) | make d2 n3 [0 1] <" + strings.Repeat("Box(", 6) + "Int" + strings.Repeat(")", 6) + " Int>"},
		{"fn f(a: " + deepest + ", b: Chan<Int>) -> Int { let c = @new Map.map(a, b); }", "!limit"},
		// a variable whose type is inferred makes another one too deep
		{"fn f(a: Box<Box<Int>>) -> Int { let l = new List.nil; let b = box l; let c = box b; let d = box c; let e = box d; let g = box e; match l { nil { } cons(x, y) { x = @a; } } }", "!limit"},
		{"fn f(a: Int) -> Int { let l = new List.nil; let b = box l; let c = box b; let d = box c; let e = box d; let g = box e; match l { nil { } cons(x, y) { x = a; } } }",
			"Int D1(Int) Box(D1(Int)) Box(Box(D1(Int))) Box(Box(Box(D1(Int)))) Box(Box(Box(Box(D1(Int))))) Box(Box(Box(Box(Box(D1(Int)))))) Int Box(D1(Int)) | make d1 n1 <Int>; box d2 a1; box d3 a2; box d4 a3; box d5 a4; box d6 a5; match a1 {open a1} {open a1 b1 [7 8]; take d7}"},
		// fields that are too deep for a local, and for a unification
		{"fn f(a: Deep<Int>) -> Int { match a { deep(x) { let y = x; } } }", "D6(Int) " + strings.Repeat("Box(", 7) + "Int" + strings.Repeat(")", 7) + " " + strings.Repeat("Box(", 7) + "Int" + strings.Repeat(")", 7) + " | match {open [1]; take d2 a1}"},
		{"fn f(a: Deep<Box<Int>>) -> Int { match a { @deep(x) { } } }", "!type"},
		{"fn f(a: Deep<Box<Int>>) -> Int { match a { deep(x) { let y = @x; } } }", "!limit"},
		{"fn f(a: &Deep<Int>) -> Int { match a { @deep(x) { } } }", "!type"},
		{"fn f(a: &Deep<Int>) -> Int { let b = @a.0; }", "!limit"},
		{"fn f() -> Int { let l = new List.nil; match l { nil { } cons(x, y) { let d = @new Deep.deep(x); } } }", "!limit"},
	})
}

// P7.1: the errors at the end, with the offsets of what made the local or the list.
func TestEnd(t *testing.T) {
	runBodyTests(t, []bodyTest{
		{"fn f() -> Int { @let l = new List.nil; let m = new List.nil; }", "!type"},
		{"fn f(a: Int) -> Int { if a { @let l = new List.nil; } let m = new List.nil; }", "!type"},
		{"fn f(a: Int) -> Int { let b = box a; @let l = new List.nil; match l { nil { } cons(x, y) { } } }", "!type"},
		{"fn f(a: List<Int>) -> Int { let l = new List.nil; l = a; }", "D1(Int) D1(Int) | make d1 n1 <Int>; take d1"},
		{"fn f(a: Box<Int>) -> Int { let r = &a; @let s = &r; }", "!type"},
		{"fn f(a: Int) -> Int { @let c = chan Arena; let d = chan &Int; }", "!type"},
		{"fn f(a: List<Two>, n: Int) -> Int { let l = new List.nil; match l { nil { let d = new List.nil; d = l; } cons(x, y) { let b = @*y; } } }", "!type"},
		// lists of types that no local has
		{"fn f(a: Int) -> Int { a = @none(); }", "!type"},
		{"fn f(a: Int) -> Int { @spawn none(); }", "!type"},
		{"fn f(a: &Int, b: &Int) -> Int { b = @id(a); }", "!type"},
		{"fn f(a: Arena) -> Int { let b = @id(a); }", "!type"},
		{"fn f(a: &Arena) -> Int { let c = @Size::a; }", "!type"},
		{"fn f(a: Int) -> Int { while a { a = @none(); a = none(); } }", "!type"},
		// the requirements of a list follow it, in their order
		{"fn f(a: Two, b: Box<Two>) -> Int { let d = @both(a, b); }", "!trait"},
		{"fn f<T>(a: T, b: Box<Pair>) -> Pair where T: Show { let d = both(a, b); return d; }", "P0 Box(D2) D2 | call d2 n7 [0 1] <P0 D2>; return a2"},
		{"fn f<T>(a: T, b: Box<Pair>) -> Pair where T: Size { let d = @both(a, b); return d; }", "!trait"},
		{"fn f<T, U>(a: U) -> U where T: Size { let d = @need(a); return d; }", "!trait"},
		{"fn f<T, U>(a: U) -> U where T: Size, U: Size { let d = need(a); return d; }", "P1 P1 | call d1 n3 [0] <P1>; return a1"},
	})
}

// statement returns the first statement of a body.
func statement(t *testing.T, body string) api.Stmt {
	t.Helper()
	return read(t, "fn f(a: Int) -> Int { "+body+" }").f.Body[0]
}

// numbersTest is a statement of each Kind, or one with an expression of each Kind, on names that there are; types is 1 if it can, or has to, have a Type.
var numbersTests = []struct {
	statement string
	right     []int // numbers of Names; nil if all are
	types     []int
}{
	{"let a = a;", []int{0}, []int{0, 1}},
	{"a = a;", []int{0}, []int{0}},
	{"*a = a;", []int{1}, []int{0}},
	{"if a { }", []int{0}, []int{0}},
	{"while a { }", []int{0}, []int{0}},
	{"match a { x { } }", []int{0}, []int{0}},
	{"return a;", []int{0}, []int{0}},
	{"panic;", []int{0}, []int{0}},
	{"drop a;", []int{0}, []int{0}},
	{"print a;", []int{0}, []int{0}},
	{"send a a;", []int{1}, []int{0}},
	{"spawn id(a);", nil, []int{0}},
	{"a = 1;", []int{0}, []int{0}},
	{"a = a;", []int{1}, []int{0}},
	{"a = a + a;", []int{2}, []int{0}},
	{"a = new Nope.nope(a);", nil, []int{0}},
	{"a = box a;", []int{1}, []int{0}},
	{"a = unbox a;", []int{1}, []int{0}},
	{"a = &a;", []int{1}, []int{0}},
	{"a = &!a;", []int{1}, []int{0}},
	{"a = &*a;", []int{1}, []int{0}},
	{"a = &!*a;", []int{1}, []int{0}},
	{"a = &in a;", []int{1}, []int{0}},
	{"a = &!in a;", []int{1}, []int{0}},
	{"a = a.0;", []int{1}, []int{0}},
	{"a = *a;", []int{1}, []int{0}},
	{"a = nope(a);", nil, []int{0}},
	{"a = Show::a;", []int{1}, []int{0}},
	{"a = arena;", []int{0}, []int{0}},
	{"a = alloc a a;", []int{2}, []int{0}},
	{"a = chan Int;", []int{0}, []int{1}},
	{"a = recv a;", []int{1}, []int{0}},
}

// P7.1: statements and expressions with all numbers of Names and Type, before anything else of them is examined.
func TestNumbers(t *testing.T) {
	const statements = 12
	kinds := map[int]bool{}
	for i, test := range numbersTests {
		if i == statements {
			kinds = map[int]bool{}
		}
		s := statement(t, test.statement)
		at, names, types, kind := &s.Offset, &s.Names, &s.Type, s.Kind
		if i >= statements {
			at, names, types, kind = &s.Expr.Offset, &s.Expr.Names, &s.Expr.Type, s.Expr.Kind
		}
		if kind != len(kinds)+1 {
			t.Fatalf("%s has the Kind %d", test.statement, kind)
		}
		kinds[kind] = true
		*at = 777
		for n := range 4 {
			for k := range 3 {
				for _, variable := range []string{"a", "nope"} {
					*names = slices.Repeat([]string{variable}, n)
					*types = slices.Repeat([]api.TypeExpr{{Name: "Nope"}}, k)
					got := checkBody(t, read(t, "fn f(a: Int) -> Int { }").with([]api.Stmt{s}))
					right := (test.right == nil || slices.Contains(test.right, n)) && slices.Contains(test.types, k)
					if right == (got == "!arg at 777") {
						t.Errorf("%s with %d names and %d types: %s", test.statement, n, k, got)
					}
				}
			}
		}
	}
}

// P7.1: a statement that has a function; Kinds that there are not; operations that there are not.
func TestNoStatement(t *testing.T) {
	base := read(t, "fn f(a: Int) -> Int { }")
	for _, test := range numbersTests {
		s := statement(t, test.statement)
		s.Func = []api.FuncDef{{Name: "g"}}
		s.Offset = 777
		if got := checkBody(t, base.with([]api.Stmt{s})); got != "!arg at 777" {
			t.Errorf("%s with a function: %s", test.statement, got)
		}
	}
	for _, kind := range []int{-1, 0, api.StFunc, api.StFunc + 1, 1 << 40} {
		if got := checkBody(t, base.with([]api.Stmt{{Kind: kind, Name: "nope", Offset: 777}})); got != "!arg at 777" {
			t.Errorf("a statement of the Kind %d: %s", kind, got)
		}
	}
	for _, kind := range []int{-1, 0, api.ExRecv + 1, 1 << 40} {
		s := api.Stmt{Kind: api.StLet, Expr: api.Expr{Kind: kind, Names: []string{"nope"}, Offset: 778}, Offset: 777}
		if got := checkBody(t, base.with([]api.Stmt{s})); got != "!arg at 778" {
			t.Errorf("an expression of the Kind %d: %s", kind, got)
		}
	}
	for _, op := range []string{"", "/", "=", "<=", "++", "add", "+ "} {
		s := api.Stmt{Kind: api.StLet, Expr: api.Expr{Kind: api.ExBinary, Op: op, Names: []string{"nope", "a"}, Offset: 778}, Offset: 777}
		if got := checkBody(t, base.with([]api.Stmt{s})); got != "!arg at 778" {
			t.Errorf("the operation %q: %s", op, got)
		}
	}
}

// P7.1: numbers that are no constants, which is before their type.
func TestConstants(t *testing.T) {
	base := read(t, "fn f(a: Int, b: Pair) -> Int { }")
	for n, right := range map[int]bool{1000000000: true, 1000000001: false, -1000000000: true, -1000000001: false, 0: true, 1 << 62: false, -1 << 63: false} {
		for _, name := range []string{"a", "b"} {
			want := "Int D2 | const" + shown("n", n)
			switch {
			case !right:
				want = "!limit at 778"
			case name == "b":
				want = "!type at 778"
			}
			s := api.Stmt{Kind: api.StSet, Name: name, Expr: api.Expr{Kind: api.ExNumber, Number: n, Offset: 778}, Offset: 777}
			if got := checkBody(t, base.with([]api.Stmt{s})); got != want {
				t.Errorf("%s = %d: %s", name, n, got)
			}
		}
	}
}

// P7.1: fields with numbers that no source has.
func TestFieldNumbers(t *testing.T) {
	base := read(t, "fn f(a: &Pair) -> Int { }")
	for _, n := range []int{-1, 2, 1 << 62, -1 << 63} {
		s := api.Stmt{Kind: api.StLet, Expr: api.Expr{Kind: api.ExField, Names: []string{"a"}, Number: n, Offset: 778}, Offset: 777}
		if got := checkBody(t, base.with([]api.Stmt{s})); got != "!type at 778" {
			t.Errorf("the field %d: %s", n, got)
		}
	}
}

// P7.1: the local with the number 199, and the one with the number 200, by all that makes locals.
func TestManyLocals(t *testing.T) {
	const function = "fn f(p: Pair, r: &Pair, l: List<Int>) -> Int { "
	for _, test := range []struct {
		last   string
		locals int
	}{
		{"@let a = 1;", 1},
		{"@let a: Int = 1;", 1},
		{"@let a = nope;", 1},
		{"match p { @pair(x, y) { } }", 2},
		{"match r { @pair(x, y) { drop nope; } }", 2},
		{"match l { nil { } @cons(x, y) { drop nope; } }", 2},
		{"*p = r;", 0},
	} {
		for n := 197 - test.locals - 1; n <= 197; n++ {
			s := read(t, function+strings.Repeat("let n = 1; ", n)+test.last+" }")
			got := checkBody(t, s)
			tooMany := n+3+test.locals > 200 && test.locals > 0
			if tooMany != (got == "!limit at "+strconv.Itoa(s.mark)) {
				t.Errorf("%d locals, and %s: %s", n+3, test.last, got)
			}
		}
	}
	for n := 192; n < 200; n++ {
		s := read(t, function+strings.Repeat("let n = 1; ", n-3)+"let a = @r.1; }")
		got := checkBody(t, s)
		switch {
		case n < 198 && !strings.HasSuffix(got, "; split a1 "+"["+strconv.Itoa(n+1)+" "+strconv.Itoa(n+2)+"]; take d"+strconv.Itoa(n)+" a"+strconv.Itoa(n+2)),
			n >= 198 && got != "!limit at "+strconv.Itoa(s.mark):
			t.Errorf("%d locals, and a field: %s", n, got)
		}
	}
}

// P7.1: the annotation is examined before the number of locals, the expression after it.
func TestOrderOfLet(t *testing.T) {
	many := "fn f() -> Int { " + strings.Repeat("let n = 1; ", 200)
	runBodyTests(t, []bodyTest{
		{many + "let n: @Nope = x; }", "!name"},
		{many + "@let n: Int = x; }", "!limit"},
		{many + "@let n = x; }", "!limit"},
		{many + "n = @x; }", "!name"},
	})
}

// P7.1: what cannot be the function with an index.
func TestNoFunction(t *testing.T) {
	base := read(t, "fn f<T>(a: Int, b: T) -> Int { return a; }")
	for name, change := range map[string]func(s *subject){
		"index -1":       func(s *subject) { s.fn = -1 },
		"index too high": func(s *subject) { s.fn++ },
		"other function": func(s *subject) { s.fn = 0 },
		"module -1":      func(s *subject) { s.p.Funcs[s.fn].Module = -1 },
		"module 3":       func(s *subject) { s.p.Funcs[s.fn].Module = 3 },
		"no modules":     func(s *subject) { s.p.Modules = nil },
		"fewer homes":    func(s *subject) { s.p.Homes = s.p.Homes[:1] },
		"more homes":     func(s *subject) { s.p.Homes = append(s.p.Homes, 0) },
		"fewer params":   func(s *subject) { s.f.Params = nil },
		"more params":    func(s *subject) { s.f.Params = []string{"T", "U"} },
		"fewer args":     func(s *subject) { s.f.Args = s.f.Args[:1] },
		"more args":      func(s *subject) { s.f.Args = append(s.f.Args, api.ArgDef{}) },
		"fewer locals":   func(s *subject) { s.p.Funcs[s.fn].Locals = s.p.Funcs[s.fn].Locals[:1] },
		"more locals": func(s *subject) {
			s.p.Funcs[s.fn].Locals = append(s.p.Funcs[s.fn].Locals, ty("Int"))
		},
		"less arity": func(s *subject) { s.p.Funcs[s.fn].Arity = 1 },
		"one arg":    func(s *subject) { s.p.Funcs[s.fn].Arity, s.f.Args = 1, s.f.Args[:1] },
	} {
		s := base
		s.p.Funcs = slices.Clone(base.p.Funcs)
		change(&s)
		if got := checkBody(t, s); got != "!arg at 0" {
			t.Errorf("%s: %s", name, got)
		}
	}
	if got := checkBody(t, base); got != "Int P0 | return" {
		t.Error(got)
	}
}

// P7.1: what is said of tables that resolve does not build: the function's own result, arguments of other functions, and modules without Uses.
func TestOtherTables(t *testing.T) {
	base := read(t, "fn f(a: Int, b: Two) -> Int { let c: Int = id(a); let d = chan Int; spawn id(a); }")
	const right = "Int D4 Int Chan(Int) | call d2 n5 [0] <Int>; chan d3; spawn n5 [0] <Int>"
	expr := base.f.Body[0].Expr.Offset
	for name, test := range map[string]struct {
		change func(p *api.Program)
		want   string
	}{
		"nothing":            {func(p *api.Program) {}, right},
		"no Uses":            {func(p *api.Program) { p.Uses = p.Uses[:2] }, "!arg at 0"},
		"more parameters":    {func(p *api.Program) { p.Funcs[5].Params = 2 }, "!type at " + strconv.Itoa(expr)},
		"no parameters":      {func(p *api.Program) { p.Funcs[5].Params = -1 }, "!type at " + strconv.Itoa(expr)},
		"too few locals":     {func(p *api.Program) { p.Funcs[5].Locals = nil }, "!type at " + strconv.Itoa(expr)},
		"more locals":        {func(p *api.Program) { p.Funcs[5].Locals = []api.Type{ty("P0"), ty("Arena")} }, right},
		"too many arguments": {func(p *api.Program) { p.Funcs[5].Arity = 2 }, "!type at " + strconv.Itoa(expr)},
		"a bound of none":    {func(p *api.Program) { p.Funcs[5].Bounds = []api.Bound{{Param: 1, Trait: 2}} }, "!trait at " + strconv.Itoa(expr)},
		"a right bound":      {func(p *api.Program) { p.Funcs[5].Bounds = []api.Bound{{Param: 0, Trait: 2}} }, right},
		"a bound by none":    {func(p *api.Program) { p.Funcs[5].Bounds = []api.Bound{{Param: 0, Trait: 9}} }, "!trait at " + strconv.Itoa(expr)},
		"no such type":       {func(p *api.Program) { p.Funcs[5].Locals = []api.Type{ty("K10_0")} }, "!limit at " + strconv.Itoa(expr)},
		"no such result":     {func(p *api.Program) { p.Funcs[5].Result = api.Type{} }, "!limit at " + strconv.Itoa(expr)},
	} {
		s := base
		s.p.Funcs = slices.Clone(base.p.Funcs)
		test.change(&s.p)
		if got := checkBody(t, s); got != test.want {
			t.Errorf("%s: %s", name, got)
		}
	}
	for _, x := range strings.Fields("_ K10_0 K-1_0 Box Box(Shared(Int)) Shared(Shared(Int)) Excl(Arena) D9 D-1 D1 D1(Int,Int) D1(Arena) Int1 Int(Int) v7 v-1 P0 P7 " + typeBoxes(8)) {
		s := base
		s.p.Funcs = slices.Clone(base.p.Funcs)
		s.p.Funcs[s.fn].Locals = []api.Type{ty("Int"), ty(x)}
		if got, want := checkBody(t, s), "!type at "+strconv.Itoa(base.f.Args[1].Offset); got != want {
			t.Errorf("the argument %s: %s", x, got)
		}
	}
}

// P7.1: what cannot be the type of a variable where a form is needed.
func TestNoForm(t *testing.T) {
	base := read(t, "fn f(a: Int) -> Int { }")
	variable := func(kind int) []api.Stmt {
		return []api.Stmt{{Kind: api.StLet, Expr: api.Expr{Kind: kind, Names: []string{"a"}, Offset: 778}, Offset: 777}}
	}
	match := []api.Stmt{{Kind: api.StMatch, Name: "a", Offset: 778}}
	for _, test := range []struct {
		body  []api.Stmt
		types string
	}{
		{match, "D8 D99 D-1 Shared(D8) Excl(D-1) Shared(D2,D2) Excl Shared Shared(Shared(D4)) _ K10_0"},
		{variable(api.ExField), "D8 D2 Shared(D8) Excl(D-1) Shared(D2,D2) Excl Shared(Shared(D2)) K10_0(D2)"},
		{variable(api.ExReShare), "Shared Shared(Int,Int) Excl Excl(Int,Int) Box(Int) D2 K10_0(Int) _"},
		{variable(api.ExReLend), "Excl Excl(Int,Int) Shared(Int) Box(Int) K10_0(Int)"},
		{variable(api.ExInShare), "Shared Shared(Box(Int),Box(Int)) Excl(Box(Int),Int)"},
		{variable(api.ExInLend), "Excl Excl(Box(Int),Box(Int)) Shared(Box(Int))"},
		{variable(api.ExLoad), "Shared Shared(Int,Int) Excl Shared(K10_0) Shared(Box(Int))"},
		{[]api.Stmt{{Kind: api.StDrop, Name: "a", Offset: 778}}, "Shared(D2) Int Chan(Int) K10_0 v5 _"},
	} {
		for _, x := range strings.Fields(test.types) {
			s := base.with(test.body)
			s.p.Funcs = slices.Clone(base.p.Funcs)
			s.p.Funcs[s.fn].Locals = []api.Type{ty(x)}
			if got := checkBody(t, s); got != "!type at 778" {
				t.Errorf("%+v of %s: %s", test.body[0], x, got)
			}
		}
	}
}

// typeBoxes writes an integer in n boxes as tests write types.
func typeBoxes(n int) string { return strings.Repeat("Box(", n) + "Int" + strings.Repeat(")", n) }

// P7.1: whatever error traits.Select has, a requirement that is not proved is ErrTrait.
func TestRequirements(t *testing.T) {
	base := read(t, "fn f(a: Two, b: Box<Pair>, r: &Two) -> Int { let c = need(b); @a = need(a); }")
	const size, two = 1, 4
	itself := api.Impl{Trait: size, Module: 1, Params: 1, Type: ty("P0"), Bounds: []api.Bound{{Param: 0, Trait: size}}}
	many := api.Impl{Trait: size, Module: 1, Params: 1, Type: ty("Box(P0)"), Bounds: slices.Repeat([]api.Bound{{Param: 0, Trait: size}}, 400)}
	method := []api.Stmt{{Kind: api.StLet, Expr: api.Expr{Kind: api.ExMethod, Name: "Size", Names: []string{"r"}, Offset: base.f.Body[1].Expr.Offset}}}
	for _, test := range []struct {
		name  string
		impls []api.Impl
		body  []api.Stmt
		at    int
	}{
		{"none", base.p.Impls, base.f.Body, 1},
		{"itself", append(slices.Clone(base.p.Impls), itself), base.f.Body, 1},
		{"its own method", append(slices.Clone(base.p.Impls), itself), method, 1},
		{"too many goals", append([]api.Impl{many}, base.p.Impls...), base.f.Body, 0},
		{"other trait", append(slices.Clone(base.p.Impls), api.Impl{Trait: size + 1, Type: api.Type{Kind: api.TyData, Id: two}}), base.f.Body, 1},
	} {
		s := base.with(test.body)
		s.p.Impls = test.impls
		if got, want := checkBody(t, s), "!trait at "+strconv.Itoa(base.f.Body[test.at].Expr.Offset); got != want {
			t.Errorf("%s: %s, want %s", test.name, got, want)
		}
	}
	s := base
	s.p.Impls = append(slices.Clone(base.p.Impls), api.Impl{Trait: size, Type: api.Type{Kind: api.TyData, Id: two}})
	if got := checkBody(t, s); strings.HasPrefix(got, "!") {
		t.Error(got)
	}
}
