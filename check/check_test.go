package check

import (
	"strconv"
	"strings"
	"testing"
)

// bodyTest is a function, with a mark @ where an error has to be found, and its checked body or the error.
type bodyTest struct{ function, want string }

func runBodyTests(t *testing.T, tests []bodyTest) {
	t.Helper()
	for _, test := range tests {
		s := read(t, test.function)
		want := test.want
		if strings.HasPrefix(want, "!") {
			want += " at " + strconv.Itoa(s.mark)
		}
		if got := checkBody(t, s); got != want {
			t.Errorf("%s\n got %s\nwant %s", test.function, got, want)
		}
	}
}

// P7.1: the chapter's examples. (The first three are functions without arguments and with the result Int.)
func TestExamples(t *testing.T) {
	runBodyTests(t, []bodyTest{
		{"fn f() -> Int { let n = 0; return n; }", "Int | const; return"},
		{"fn f() -> Int { let l = new List.nil; @return n; }", "!name"},
		{"fn f() -> Int { @let l = new List.nil; let n = 0; return n; }", "!type"},
		{"fn f() -> Int { let n = 0; let l = new List.nil; let b = box l; let m = new List.cons(n, b); drop m; return n; }",
			"Int D1(Int) Box(D1(Int)) D1(Int) | const; make d1 n1 <Int>; box d2 a1; make d3 n1 b1 [0 2] <Int>; drop a3; return"},
	})
}

// P7.1: let, and which variable a name means.
func TestLet(t *testing.T) {
	runBodyTests(t, []bodyTest{
		{"fn f() -> Int { }", " | "},
		{"fn f(a: Int, b: &Int) -> Int { return a; }", "Int Shared(Int) | return"},
		{"fn f(a: &Int) -> &Int { let b = a; return b; }", "Shared(Int) Shared(Int) | take d1; return a1"},
		{"fn f() -> Int { let n: Int = 1; return n; }", "Int | const n1; return"},
		{"fn f() -> Int { let n: Box<Int> = @1; }", "!type"},
		{"fn f() -> Int { let n: @Nope = x; }", "!name"},
		{"fn f() -> Int { let n: Box<@Secret> = x; }", "!name"},
		{"fn f() -> Int { let n: @List<Int, Int> = x; }", "!type"},
		{"fn f() -> Int { let n: Box<@&Int> = x; }", "!type"},
		{"fn f() -> Int { let n: @" + strings.Repeat("Box<", 8) + "Int" + strings.Repeat(">", 8) + " = x; }", "!limit"},
		{"fn f<T, U>(a: U) -> U { let b: U = a; return b; }", "P1 P1 | take d1; return a1"},
		{"fn f<T, U>(a: U) -> U { let b: T = @a; return b; }", "!type"},
		{"fn f<List>(a: List) -> Int { let b: List = a; }", "P0 P0 | take d1"},
		{"fn f() -> Int { let n = @n; }", "!name"},
		{"fn f(n: Int) -> Int { let n = box n; let n = box n; let m = unbox n; }", "Int Box(Int) Box(Box(Int)) Box(Int) | box d1; box d2 a1; unbox d3 a2"},
		{"fn f(n: Int) -> Int { let m = box n; if n { let n = m; let k = unbox n; } let k = n; print k; }",
			"Int Box(Int) Box(Int) Int Int | box d1; if {take d2 a1; unbox d3 a2} {}; take d4; print a4"},
		{"fn f(n: Int) -> Int { if n { let k = n; } @print k; }", "!name"},
		{"fn f(n: Int) -> Int { if n { let k = n; } else { @print k; } }", "!name"},
		{"fn f(n: Int) -> Int { while n { let k = n; } @print k; }", "!name"},
		{"fn f(n: Int) -> Int { if n { if n { let k = n; } @print k; } }", "!name"},
		{"fn f(n: Int) -> Int { let k = n; if n { print k; while n { print k; } } }", "Int Int | take d1; if {print a1; while {print a1}} {}"},
	})
}

// P7.1: the rows of the table of statements.
func TestStatements(t *testing.T) {
	runBodyTests(t, []bodyTest{
		{"fn f(a: Int, b: Int) -> Int { b = a; b = 7; }", "Int Int | take d1; const d1 n7"},
		{"fn f(a: Int) -> Int { @c = x; }", "!name"},
		{"fn f(a: Int) -> Int { a = @x; }", "!name"},
		{"fn f(a: Box<Int>) -> Int { a = @1; }", "!type"},
		{"fn f(a: Int) -> Int { let l = new List.nil; let k = l; l = @a; }", "!type"},

		{"fn f(a: Int, r: &!Int) -> Int { *r = a; }", "Int Excl(Int) | store a1"},
		{"fn f(a: Int, r: &!Box<Int>, b: Box<Int>) -> Int { *r = b; }", "Int Excl(Box(Int)) Box(Int) | store a1 b2"},
		{"fn f(a: Int) -> Int { @*x = y; }", "!name"},
		{"fn f(a: Int) -> Int { @*a = y; }", "!name"},
		{"fn f(a: Int, r: &Int) -> Int { @*r = a; }", "!type"},
		{"fn f(a: Int, r: &!Box<Int>) -> Int { @*r = a; }", "!type"},

		{"fn f(a: Int, b: Int) -> Int { if b { print a; } }", "Int Int | if a1 {print} {}"},
		{"fn f(a: Int, b: Int) -> Int { if b { } else { print a; print b; } }", "Int Int | if a1 {} {print; print a1}"},
		{"fn f(a: Int) -> Int { @if b { } }", "!name"},
		{"fn f(a: Box<Int>) -> Int { @if a { let x = y; } }", "!type"},
		{"fn f(a: Int, b: Int) -> Int { while b { while a { print b; } } }", "Int Int | while a1 {while {print a1}}"},
		{"fn f(a: Int) -> Int { @while b { } }", "!name"},
		{"fn f(a: &Int) -> Int { @while a { } }", "!type"},

		{"fn f(a: Int, b: Int) -> Int { return b; return a; }", "Int Int | return a1; return"},
		{"fn f(a: Int) -> Int { @return b; }", "!name"},
		{"fn f(a: Box<Int>) -> Int { @return a; }", "!type"},
		{"fn f(a: &Int) -> &!Int { @return a; }", "!type"},
		{"fn f() -> List<Int> { let l = new List.nil; return l; }", "D1(Int) | make n1 <Int>; return"},
		{"fn f(a: Int) -> Int { panic; print a; }", "Int | panic; print"},

		{"fn f(a: Int, b: Box<Int>) -> Int { drop b; drop b; }", "Int Box(Int) | drop a1; drop a1"},
		{"fn f(a: List<Int>, b: Arena) -> Int { drop a; drop b; }", "D1(Int) Arena | drop; drop a1"},
		{"fn f<T>(a: T) -> Int { drop a; }", "P0 | drop"},
		{"fn f() -> Int { @drop b; }", "!name"},
		{"fn f(a: Int) -> Int { @drop a; }", "!type"},
		{"fn f(a: Chan<Int>) -> Int { @drop a; }", "!type"},
		{"fn f(a: &Pair) -> Int { @drop a; }", "!type"},
		{"fn f(a: &!Pair) -> Int { @drop a; }", "!type"},
		{"fn f() -> Int { let c = new List.nil; drop c; let l: List<Int> = c; }", "D1(Int) D1(Int) | make n1 <Int>; drop; take d1"},

		{"fn f(b: Int, a: Int) -> Int { print a; }", "Int Int | print a1"},
		{"fn f() -> Int { @print b; }", "!name"},
		{"fn f(a: &Int) -> Int { @print a; }", "!type"},

		{"fn f(a: Int, c: Chan<Int>) -> Int { send c a; }", "Int Chan(Int) | send a1"},
		{"fn f(c: Chan<Pair>, a: Pair) -> Int { send c a; }", "Chan(D2) D2 | send b1"},
		{"fn f(c: Chan<Int>) -> Int { @send d c; }", "!name"},
		{"fn f(c: Chan<Int>) -> Int { @send c d; }", "!name"},
		{"fn f(c: Chan<Int>) -> Int { @send c c; }", "!type"},
		{"fn f(c: Box<Int>, a: Int) -> Int { @send c a; }", "!type"},

		{"fn f(a: Int, b: Box<Int>) -> Int { spawn id(b); spawn id(a); }", "Int Box(Int) | spawn n5 [1] <Box(Int)>; spawn n5 [0] <Int>"},
		{"fn f(a: Int) -> Int { @spawn hidden(); }", "!name"},
		{"fn f(a: Int) -> Int { @spawn id(b); }", "!name"},
		{"fn f(a: Int) -> Int { @spawn id(); }", "!type"},
		{"fn f(a: Int) -> Int { @spawn id(a, b); }", "!type"},
		{"fn f(a: &Int) -> Int { @spawn ref(a); }", "!type"},
		{"fn f(a: &Int) -> Int { @spawn give(a); }", "!type"},
		{"fn f(a: &Int) -> Int { @spawn id(a); }", "!type"},
		{"fn f(a: Arena) -> Int { @spawn zone(a); }", "!type"},
		{"fn f(a: Int) -> Int { @spawn need(a); }", "!trait"},
		{"fn f(a: Int) -> Int { @spawn none(); }", "!type"},

		{"fn f(a: Int) -> Int { @fn g[](a: Int) -> Int { } }", "!arg"},
	})
}

// P7.1: match statements and their arms.
func TestMatch(t *testing.T) {
	runBodyTests(t, []bodyTest{
		{"fn f(n: Int, a: Two) -> Int { match a { left(x) { return x; } right { return n; } } }",
			"Int D4 Int | match a1 {open a1 [2]; return a2} {open a1 b1; return}"},
		{"fn f(n: Int, a: Two) -> Int { match a { right { } left(x) { print x; } } }",
			"Int D4 Int | match a1 {open a1 [2]; print a2} {open a1 b1}"},
		{"fn f(a: List<Pair>) -> Int { match a { cons(x, y) { drop y; } nil { } } }",
			"D1(D2) D2 Box(D1(D2)) | match {open} {open b1 [1 2]; drop a2}"},
		{"fn f(a: &List<Pair>) -> Int { match a { cons(x, y) { let z = &in y; } nil { } } }",
			"Shared(D1(D2)) Shared(D2) Shared(Box(D1(D2))) Shared(D1(D2)) | match {split} {split b1 [1 2]; in d3 a2}"},
		{"fn f(a: &!List<Int>, n: Int) -> Int { match a { nil { } cons(x, y) { *x = n; } } }",
			"Excl(D1(Int)) Int Excl(Int) Excl(Box(D1(Int))) | match {split} {split b1 [2 3]; store a2 b1}"},
		{"fn f(a: Map<Int, Pair>) -> Int { match a { map(k, v) { let w = recv v; drop w; } } }",
			"D3(Int,D2) Int Chan(D2) D2 | match {open [1 2]; recv d3 a2; drop a3}"},
		{"fn f(a: Two, x: Box<Int>) -> Int { match a { left(x) { print x; let x = box x; drop x; } right { } } drop x; }",
			"D4 Box(Int) Int Box(Int) | match {open [2]; print a2; box d3 a2; drop a3} {open b1}; drop a1"},
		{"fn f(a: Two) -> Int { match a { left(x) { } right { @print x; } } }", "!name"},
		{"fn f(a: Two) -> Int { match a { left(x) { } right { } } @print x; }", "!name"},
		{"fn f(a: Two) -> Int { match a { left(x) { let y = x; } right { @print y; } } }", "!name"},
		{"fn f(a: Two) -> Int { @match b { x { } } }", "!name"},
		{"fn f(a: Int) -> Int { @match a { x { } } }", "!type"},
		{"fn f(a: Box<Two>) -> Int { @match a { left(x) { } } }", "!type"},
		{"fn f(a: &Int) -> Int { @match a { left(x) { } } }", "!type"},
		{"fn f(a: &Box<Two>) -> Int { @match a { left(x) { } } }", "!type"},
		{"fn f<T>(a: T) -> Int { @match a { left(x) { } } }", "!type"},
		{"fn f(a: Two) -> Int { match a { @none { } } }", "!name"},
		{"fn f(a: Two) -> Int { match a { @nil { } right { } } }", "!name"},
		{"fn f(a: Two) -> Int { match a { right { } @right(x) { } } }", "!twice"},
		{"fn f(a: Two) -> Int { match a { @right(x) { } } }", "!type"},
		{"fn f(a: List<Int>) -> Int { match a { @cons(x) { } } }", "!type"},
		{"fn f(a: List<Int>) -> Int { match a { @cons { } } }", "!type"},
		{"fn f(a: List<Int>) -> Int { match a { @cons(x, x) { } } }", "!twice"},
		{"fn f(a: List<Int>) -> Int { match a { @cons(x, x, x) { } } }", "!type"},
		{"fn f(a: List<Int>) -> Int { @match a { cons(x, y) { } } }", "!match"},
		{"fn f(a: Two) -> Int { @match a { right { } } }", "!match"},
		{"fn f(a: Two) -> Int { match a { right { @print q; } } }", "!name"},
		{"fn f(a: Two) -> Int { match a { right { } @none { } } }", "!name"},
		{"fn f(n: Int, a: Wide<Int, Two, Pair>) -> Int { match a { wide(x, y, z) { match x { right { } left(x) { print x; } } } } }",
			"Int D5(Int,D4,D2) D4 Chan(Int) D2 Int | match a1 {open a1 [2 3 4]; match a2 {open a2 [5]; print a5} {open a2 b1}}"},
	})
}

// P7.1: the rows of the table of expressions, but for calls.
func TestExpressions(t *testing.T) {
	runBodyTests(t, []bodyTest{
		{"fn f() -> Int { let n = 1000000000; let m = -1000000000; let k = 0; }", "Int Int Int | const n1000000000; const d1 n-1000000000; const d2"},
		{"fn f(b: Box<Int>) -> Int { b = @1; }", "!type"},

		{"fn f(a: Int, b: Pair) -> Int { let c = b; }", "Int D2 D2 | take d2 a1"},
		{"fn f(a: Int, b: Pair) -> Int { b = @a; }", "!type"},
		{"fn f(a: Int, b: Pair) -> Int { b = @c; }", "!name"},

		{"fn f(a: Int, b: Int) -> Int { let c = a + b; let d = c - b; let e = d * a; }", "Int Int Int Int Int | add d2 b1; sub d3 a2 b1; mul d4 a3"},
		{"fn f(a: Int, b: Int) -> Int { a = a < b; b = b == a; }", "Int Int | less b1; equal d1 a1"},
		{"fn f(a: Int, b: Box<Int>) -> Int { let c = @a + b; }", "!type"},
		{"fn f(a: Int, b: Box<Int>) -> Int { let c = @b + a; }", "!type"},
		{"fn f(a: Int, b: Box<Int>) -> Int { b = @a + a; }", "!type"},
		{"fn f(a: Int, b: Box<Int>) -> Int { b = @a + c; }", "!name"},
		{"fn f(a: Int, b: Box<Int>) -> Int { b = @c + a; }", "!name"},

		{"fn f() -> Int { let a = new Two.right; let n = 1; let b = new Two.left(n); }", "D4 Int D4 | make n4 b1; const d1 n1; make d2 n4 [1]"},
		{"fn f(a: Int, b: Chan<Pair>) -> Int { let c = new Map.map(a, b); }", "Int Chan(D2) D3(Int,D2) | make d2 n3 [0 1] <Int D2>"},
		{"fn f<T>(a: T, b: Box<List<T>>) -> List<T> { let l = new List.cons(a, b); return l; }", "P0 Box(D1(P0)) D1(P0) | make d2 n1 b1 [0 1] <P0>; return a2"},
		{"fn f() -> Int { let a = @new Nope.nil; }", "!name"},
		{"fn f() -> Int { let a = @new Secret.secret; }", "!name"},
		{"fn f() -> Int { let a = @new List.none(x); }", "!name"},
		{"fn f() -> Int { let a = @new List.cons(x); }", "!type"},
		{"fn f() -> Int { let a = @new List.nil(x); }", "!type"},
		{"fn f(a: Int) -> Int { let c = @new List.cons(x, a); }", "!name"},
		{"fn f(a: Int) -> Int { let c = @new List.cons(a, x); }", "!name"},
		{"fn f(a: Int) -> Int { a = @new List.cons(x, x); }", "!name"},
		{"fn f(a: Int) -> Int { a = @new Two.right; }", "!type"},
		{"fn f(a: Int, b: Box<List<Pair>>) -> Int { let c = @new List.cons(a, b); }", "!type"},
		{"fn f(a: Int) -> Int { let c = @new List.cons(a, a); }", "!type"},
		{"fn f(a: &Int, b: Box<List<Int>>) -> Int { let c = @new List.cons(a, b); }", "!type"},

		{"fn f(a: Int, b: Int) -> Int { let c = box b; }", "Int Int Box(Int) | box d2 a1"},
		{"fn f(a: Int) -> Int { let c = @box b; }", "!name"},
		{"fn f(a: Int) -> Int { a = @box a; }", "!type"},
		{"fn f(a: &Int) -> Int { @let b = box a; }", "!type"},
		{"fn f(a: Int, b: Box<Pair>) -> Int { let c = unbox b; }", "Int Box(D2) D2 | unbox d2 a1"},
		{"fn f(a: Int) -> Int { let c = @unbox b; }", "!name"},
		{"fn f(a: Int) -> Int { let c = @unbox a; }", "!type"},
		{"fn f(a: Chan<Int>) -> Int { let c = @unbox a; }", "!type"},
		{"fn f(a: Int, b: Box<Pair>) -> Int { a = @unbox b; }", "!type"},

		{"fn f(a: Int, b: Box<Int>) -> Int { let c = &b; let d = &!b; }", "Int Box(Int) Shared(Box(Int)) Excl(Box(Int)) | loan d2 a1; loan d3 a1"},
		{"fn f(a: Arena) -> Int { let c = &a; }", "Arena Shared(Arena) | loan d1"},
		{"fn f(a: Arena) -> Int { @let c = &!a; }", "!type"},
		{"fn f(a: &Int) -> Int { @let c = &a; }", "!type"},
		{"fn f(a: Int) -> Int { let c = @&b; }", "!name"},
		{"fn f(a: Int) -> Int { a = @&!b; }", "!name"},
		{"fn f(a: Int, b: &!Int) -> Int { b = @&a; }", "!type"},
		{"fn f(a: Int, b: &Int) -> Int { b = @&!a; }", "!type"},

		{"fn f(a: Int, b: &!Int, c: &Int) -> Int { let d = &*b; let e = &*c; let g = &!*b; }", "Int Excl(Int) Shared(Int) Shared(Int) Shared(Int) Excl(Int) | re d3 a1; re d4 a2; re d5 a1"},
		{"fn f(a: &Arena) -> Int { let d = &*a; }", "Shared(Arena) Shared(Arena) | re d1"},
		{"fn f(a: Int) -> Int { let d = @&*b; }", "!name"},
		{"fn f(a: Int) -> Int { let d = @&*a; }", "!type"},
		{"fn f(a: Box<Int>) -> Int { let d = @&*a; }", "!type"},
		{"fn f(a: &Int) -> Int { let d = @&!*a; }", "!type"},
		{"fn f(a: Int) -> Int { let d = @&!*b; }", "!name"},
		{"fn f(a: &!Int, b: &!Pair) -> Int { b = @&!*a; }", "!type"},
		{"fn f(a: &!Int, b: &Pair) -> Int { b = @&*a; }", "!type"},

		{"fn f(a: Int, b: &Box<Int>, c: &!Box<Pair>) -> Int { let d = &in b; let e = &in c; let g = &!in c; }",
			"Int Shared(Box(Int)) Excl(Box(D2)) Shared(Int) Shared(D2) Excl(D2) | in d3 a1; in d4 a2; in d5 a2"},
		{"fn f(a: Int) -> Int { let d = @&in b; }", "!name"},
		{"fn f(a: Int) -> Int { let d = @&!in b; }", "!name"},
		{"fn f(a: Box<Box<Int>>) -> Int { let d = @&in a; }", "!type"},
		{"fn f(a: &Int) -> Int { let d = @&in a; }", "!type"},
		{"fn f(a: &!Chan<Int>) -> Int { let d = @&!in a; }", "!type"},
		{"fn f(a: &Box<Int>) -> Int { let d = @&!in a; }", "!type"},
		{"fn f(a: &Box<Int>, b: &Pair) -> Int { b = @&in a; }", "!type"},
		{"fn f(a: &!Box<Int>, b: &Int) -> Int { b = @&!in a; }", "!type"},

		{"fn f(a: Int, b: &Pair) -> Int { let c = b.0; let d = b.1; }",
			"Int Shared(D2) Shared(Int) Shared(Int) Shared(Box(Int)) Shared(Box(Int)) Shared(Int) Shared(Box(Int)) | split a1 [3 4]; take d2 a3; split a1 [6 7]; take d5 a7"},
		{"fn f(a: &!Map<Int, Pair>) -> Int { let c = a.1; }", "Excl(D3(Int,D2)) Excl(Chan(D2)) Excl(Int) Excl(Chan(D2)) | split [2 3]; take d1 a3"},
		{"fn f(a: Pair) -> Int { let c = @b.0; }", "!name"},
		{"fn f(a: Pair) -> Int { let c = @a.0; }", "!type"},
		{"fn f(a: &Int) -> Int { let c = @a.0; }", "!type"},
		{"fn f(a: &Box<Pair>) -> Int { let c = @a.0; }", "!type"},
		{"fn f(a: &Two) -> Int { let c = @a.0; }", "!type"},
		{"fn f(a: &List<Int>) -> Int { let c = @a.0; }", "!type"},
		{"fn f(a: &Pair) -> Int { let c = @a.2; }", "!type"},
		{"fn f(a: &Pair, b: &Int) -> Int { b = @a.1; }", "!type"},
		{"fn f(a: &Pair, b: &!Int) -> Int { b = @a.0; }", "!type"},

		{"fn f(a: Int, b: &Int, c: &!Chan<Pair>) -> Int { let d = *b; let e = *c; }", "Int Shared(Int) Excl(Chan(D2)) Int Chan(D2) | load d3 a1; load d4 a2"},
		{"fn f(a: Int) -> Int { let d = @*b; }", "!name"},
		{"fn f(a: Int) -> Int { let d = @*a; }", "!type"},
		{"fn f(a: &Box<Int>) -> Int { let d = @*a; }", "!type"},
		{"fn f<T>(a: &T) -> Int { let d = @*a; }", "!type"},
		{"fn f(a: &Arena) -> Int { let d = @*a; }", "!type"},
		{"fn f(a: &Int, b: Pair) -> Int { b = @*a; }", "!type"},

		{"fn f() -> Int { let a = arena; let b = arena; }", "Arena Arena | arena; arena d1"},
		{"fn f(a: Int) -> Int { a = @arena; }", "!type"},
		{"fn f(n: Int, a: &Arena) -> Int { let b = alloc a n; }", "Int Shared(Arena) Excl(Int) | alloc d2 a1"},
		{"fn f(a: &Arena, b: Pair) -> Int { let c = alloc a b; }", "Shared(Arena) D2 Excl(D2) | alloc d2 b1"},
		{"fn f(a: Arena, b: Pair) -> Int { let c = @alloc a b; }", "!type"},
		{"fn f(a: &Int, b: Pair) -> Int { let c = @alloc a b; }", "!type"},
		{"fn f(a: &Arena, b: Pair) -> Int { b = @alloc a b; }", "!type"},
		{"fn f(a: &Arena, b: &Int) -> Int { @let c = alloc a b; }", "!type"},
		{"fn f(a: &Arena, b: Pair) -> Int { b = @alloc c b; }", "!name"},
		{"fn f(a: Int, b: Pair) -> Int { b = @alloc a c; }", "!name"},

		{"fn f(a: Int) -> Int { let c = chan Int; let d = chan List<Pair>; }", "Int Chan(Int) Chan(D1(D2)) | chan d1; chan d2"},
		{"fn f(a: Int) -> Int { let c = chan @Nope; }", "!name"},
		{"fn f(a: Int) -> Int { let c = chan Box<@Arena>; }", "!type"},
		{"fn f(a: Int) -> Int { @let c = chan &Int; }", "!type"},
		{"fn f(a: Int) -> Int { @let c = chan Arena; }", "!type"},
		{"fn f(a: Int) -> Int { a = @chan Int; }", "!type"},
		{"fn f(a: Int) -> Int { a = chan @Nope; }", "!name"},
		{"fn f(a: Int, b: Chan<Pair>) -> Int { let c = recv b; }", "Int Chan(D2) D2 | recv d2 a1"},
		{"fn f(a: Int) -> Int { let c = @recv b; }", "!name"},
		{"fn f(a: Int) -> Int { let c = @recv a; }", "!type"},
		{"fn f(a: Int, b: Chan<Pair>) -> Int { a = @recv b; }", "!type"},
	})
}

// P7.1: calls of functions and of methods.
func TestCalls(t *testing.T) {
	runBodyTests(t, []bodyTest{
		{"fn f(a: Int, b: Pair) -> Int { let c = id(b); let d = id(a); }", "Int D2 D2 Int | call d2 n5 [1] <D2>; call d3 n5 [0] <Int>"},
		{"fn f(a: Int, b: &Int) -> Int { let c = ref(b); let d = give(b); }", "Int Shared(Int) Int Shared(Int) | call d2 n8 [1]; call d3 n9 [1]"},
		{"fn f(a: Int, b: Pair, c: Chan<Pair>) -> Int { let d = swap(a, b, c); }", "Int D2 Chan(D2) D3(D2,Int) | call d3 n10 [0 1 2] <Int D2>"},
		{"fn f(a: Arena) -> Int { let n = zone(a); }", "Arena Int | call d1 n11 [0]"},
		{"fn f(a: Int) -> Int { let n = f(a); return n; }", "Int Int | call d1 n13 [0]; return a1"},
		{"fn f(a: Pair) -> Int { let c = need(a); }", "D2 D2 | call d1 n3 [0] <D2>"},
		{"fn f(a: Int) -> Int { let c = @hidden(); }", "!name"},
		{"fn f(a: Int) -> Int { let c = @nope(x); }", "!name"},
		{"fn f(a: Int) -> Int { let c = @id(); }", "!type"},
		{"fn f(a: Int) -> Int { let c = @id(x, y); }", "!type"},
		{"fn f(a: Int) -> Int { let c = @id(x); }", "!name"},
		{"fn f(a: Int, b: Pair) -> Int { let d = @swap(a, a, x); }", "!name"},
		{"fn f(a: Int, b: Pair) -> Int { let d = @ref(a); }", "!type"},
		{"fn f(a: Int, b: Pair, c: Chan<Pair>) -> Int { let d = @swap(b, a, c); }", "!type"},
		{"fn f(a: Int, b: Pair) -> Int { b = @id(a); }", "!type"},
		{"fn f(a: Int, b: Pair) -> Int { b = @id(x); }", "!name"},
		{"fn f(a: &Int) -> Int { let d = @id(a); }", "!type"},
		{"fn f(a: Int) -> Int { let d = @need(a); }", "!trait"},
		{"fn f(a: Int) -> Int { let d = @none(); }", "!type"},
		{"fn f(a: Box<Box<Pair>>) -> Int { let d = need(a); }", "Box(Box(D2)) Box(Box(D2)) | call d1 n3 [0] <Box(Box(D2))>"},
		{"fn f(a: Box<Box<Two>>) -> Int { let d = @need(a); }", "!trait"},
		{"fn f(a: Int, b: Box<Pair>) -> Int { let d = both(a, b); }", "Int Box(D2) D2 | call d2 n7 [0 1] <Int D2>"},
		{"fn f(a: Int, b: Box<Int>) -> Int { let d = @both(a, b); }", "!trait"},
		{"fn f(a: Two, b: Box<Pair>) -> Int { let d = @both(a, b); }", "!trait"},
		{"fn f<T, U>(a: T, b: Box<U>) -> U where U: Size, T: Show, U: Show { let d = both(a, b); return d; }", "P0 Box(P1) P1 | call d2 n7 [0 1] <P0 P1>; return a2"},
		{"fn f<T, U>(a: T, b: Box<U>) -> U where U: Size, T: Size, U: Show { let d = @both(a, b); return d; }", "!trait"},

		{"fn f(a: Int, b: &Pair) -> Int { let c = Size::b; let d = Show::b; }", "Int Shared(D2) Int Int | method d2 n1 [1] <D2>; method d3 n2 [1] <D2>"},
		{"fn f(a: &Int) -> Int { let c = Show::a; }", "Shared(Int) Int | method d1 n2 [0] <Int>"},
		{"fn f<T>(a: &T) -> Int where T: Size { let c = Size::a; }", "Shared(P0) Int | method d1 n1 [0] <P0>"},
		{"fn f<T>(a: &Box<T>) -> Int where T: Size { let c = Size::a; }", "Shared(Box(P0)) Int | method d1 n1 [0] <Box(P0)>"},
		{"fn f<T>(a: &T) -> Int where T: Show { let c = @Size::a; }", "!trait"},
		{"fn f(a: &Int) -> Int { let c = @Size::a; }", "!trait"},
		{"fn f(a: &Int) -> Int { let c = @Nope::b; }", "!name"},
		{"fn f(a: &Int) -> Int { let c = @Dark::b; }", "!name"},
		{"fn f(a: &Int) -> Int { let c = @Show::b; }", "!name"},
		{"fn f(a: Int) -> Int { let c = @Show::a; }", "!type"},
		{"fn f(a: &!Int) -> Int { let c = @Show::a; }", "!type"},
		{"fn f(a: &Int, b: Pair) -> Int { b = @Show::a; }", "!type"},
		{"fn f(a: &Arena) -> Int { let c = @Show::a; }", "!type"},
	})
}
