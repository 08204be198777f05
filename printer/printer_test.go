package printer

import (
	"reflect"
	"strings"
	"testing"

	"leasehold/api"
	"leasehold/parser"
)

// tour is a canonical text with every kind of item, type, statement and expression.
const tour = `module tour;
use a;
use b;
data Pair<A, B> {
  pair(A, &!Box<B>),
  none,
  n(Int, Pair<A, Chan<B>>, &&!Arena)
} drop 5;
data E {
  x
} drop panic;
data G<T> {
  y(T)
};
trait Show;
trait Eq;
impl Show for Int = f;
impl<T, U> Show for Pair<T, &U> where T: Show, T: Eq = show;
fn f() -> Arena {
}
fn all<T, U>(a: T, b: &Arena) -> Box<T> where T: Show, U: Eq {
  let n: Int = 5;
  let n = -5;
  let n = 0;
  n = m;
  let a = b + c;
  let a = b - c;
  let a = b * c;
  let a = b < c;
  let a = b == c;
  let a = new D.v;
  let a = new D.v(b, c);
  let x: Box<Int> = box y;
  let a = unbox b;
  let a = &b;
  let a = &!b;
  let a = &*b;
  let z = &!*p;
  let w = &in p;
  let a = &!in b;
  let a = b.2;
  let a = *b;
  let a = g();
  let a = g(b, c);
  let s = Show::p;
  let a = arena;
  let a = alloc b c;
  let a = chan Pair<Int, &!Box<T>>;
  let a = recv b;
  *p = x;
  if a {
  }
  if a {
    panic;
  } else {
    drop b;
    drop c;
  }
  while a {
    if b {
    } else {
      while c {
        print b;
      }
    }
    drop a;
  }
  match a {
    v {
    }
    w(x, y) {
      match x {
        v {
          return x;
        }
      }
      drop y;
    }
  }
  send a b;
  spawn f();
  spawn f(a, b);
  fn h[](x: Int) -> Int {
    return x;
  }
  fn h[move a: Int, &b: Int, &!c: Box<Int>](d: Int, e: Int) -> &Int {
    fn i[&z: D]() -> Int {
    }
  }
}
fn z<T>(c: &!Pair<T>) -> Chan<T> where T: U {
}
`

func named(name string, args ...api.TypeExpr) api.TypeExpr {
	return api.TypeExpr{Name: name, Args: args}
}

// inBlock returns a module with a function of some statements.
func inBlock(list ...api.Stmt) api.Module {
	return api.Module{Name: "m", Funcs: []api.FuncDef{{Name: "f", Result: named("Int"), Body: list}}}
}

func inLet(e api.Expr) api.Module { return inBlock(api.Stmt{Kind: api.StLet, Name: "x", Expr: e}) }

func inLocal(f api.FuncDef) api.Module {
	return inBlock(api.Stmt{Kind: api.StFunc, Func: []api.FuncDef{f}})
}

func inData(d api.DataDef) api.Module { return api.Module{Name: "m", Datas: []api.DataDef{d}} }

// prints checks the text of a module without its first line.
func prints(t *testing.T, m api.Module, want string) {
	t.Helper()
	if s := Print(m); s != "module m;\n"+want || !Printable(m) {
		t.Errorf("%s\nwant\n%s", s, want)
	}
	checkModule(t, m)
}

func refuses(t *testing.T, m api.Module) {
	t.Helper()
	if s := Print(m); s != "" || Printable(m) {
		t.Errorf("%+v: %q", m, s)
	}
	checkModule(t, m)
}

// P3.3: a text in the canonical form is the text of its module.
func TestTour(t *testing.T) {
	m, err, at := parser.Parse(tour)
	if err != api.OK {
		t.Fatal(err, at)
	}
	if s := checkModule(t, m); s != tour {
		t.Errorf("%s", s)
	}
}

// P3.3: texts with other gaps and numbers, and with an else in which there is nothing.
func TestOtherTexts(t *testing.T) {
	for _, c := range []struct{ text, want string }{
		{"module m;", ""},
		{" # x\nmodule\tm ;\r\nuse a ;use\nb;", "use a;\nuse b;\n"},
		{"module m; data d{v,w(Int)}drop 0;", "data d {\n  v,\n  w(Int)\n};\n"},
		{"module m; data d{v}drop 005;", "data d {\n  v\n} drop 5;\n"},
		{"module m; trait T; data d{v}drop panic;", "data d {\n  v\n} drop panic;\ntrait T;\n"},
		{"module m; fn g()->Int{} impl T for Int=g; fn f()->Int{}", "impl T for Int = g;\nfn g() -> Int {\n}\nfn f() -> Int {\n}\n"},
		{"module m; fn f()->Int{if a{}else{}}", "fn f() -> Int {\n  if a {\n  }\n}\n"},
		{"module m; fn f()->Int{a=- 0;a=-007;a=b<-c;}", ""},
		{"module m; fn f()->Int{a=- 0;a=-007;}", "fn f() -> Int {\n  a = 0;\n  a = -7;\n}\n"},
		{"module m; fn f()->Int{a=b-c;a=b *c;a=b<c;a=& * b;a=&! in c;a=b . 2;a=g ( );a=T :: b;* p=x;}", "fn f() -> Int {\n  a = b - c;\n  a = b * c;\n  a = b < c;\n  a = &*b;\n  a = &!in c;\n  a = b.2;\n  a = g();\n  a = T::b;\n  *p = x;\n}\n"},
	} {
		m, err, _ := parser.Parse(c.text)
		if err != api.OK {
			refuses(t, m)
			continue
		}
		prints(t, m, c.want)
	}
}

// P3.1: the examples of the chapter.
func TestExamples(t *testing.T) {
	d := api.DataDef{Name: "D", Params: []string{"T"}, Variants: []api.VariantDef{{Name: "A"}, {Name: "B", Fields: []api.TypeExpr{named("Int"), named("&", named("T"))}}}, Drop: 5}
	if s := Print(api.Module{Name: "M", Datas: []api.DataDef{d}}); s != "module M;\ndata D<T> {\n  A,\n  B(Int, &T)\n} drop 5;\n" {
		t.Error(s)
	}
	f := api.FuncDef{Name: "f", Args: []api.ArgDef{{Name: "x", Type: named("Int")}}, Result: named("Int"), Body: []api.Stmt{{Kind: api.StIf, Name: "x", Then: []api.Stmt{{Kind: api.StPanic}}, Else: []api.Stmt{{Kind: api.StPrint, Name: "x"}}}, {Kind: api.StReturn, Name: "x"}}}
	if s := Func(f); s != "fn f(x: Int) -> Int {\n  if x {\n    panic;\n  } else {\n    print x;\n  }\n  return x;\n}\n" {
		t.Error(s)
	}
	local := api.FuncDef{Name: "g", Captures: []api.ArgDef{{Name: "y", Type: named("Int")}, {Name: "z", Type: named("D"), Capture: api.CaptureShared}}, Args: []api.ArgDef{{Name: "x", Type: named("Int")}}, Result: named("Int")}
	prints(t, inLocal(local), "fn f() -> Int {\n  fn g[move y: Int, &z: D](x: Int) -> Int {\n  }\n}\n")
}

// P3.1, P3.7: names of the greatest length, and of one byte more.
func TestLongNames(t *testing.T) {
	long := strings.Repeat("n", 24)
	prints(t, api.Module{Name: "m", Uses: []string{long}}, "use "+long+";\n")
	refuses(t, api.Module{Name: "m", Uses: []string{long + "n"}})
	prints(t, inBlock(api.Stmt{Kind: api.StReturn, Name: long}), "fn f() -> Int {\n  return "+long+";\n}\n")
	refuses(t, inBlock(api.Stmt{Kind: api.StReturn, Name: long + "n"}))
}

// P3.1: the drop action of a data type, and its variants.
func TestDatas(t *testing.T) {
	v := []api.VariantDef{{Name: "v"}}
	for drop, want := range map[int]string{-1: " drop panic;", 0: ";", 1: " drop 1;", 1000000000: " drop 1000000000;"} {
		prints(t, inData(api.DataDef{Name: "d", Variants: v, Drop: drop}), "data d {\n  v\n}"+want+"\n")
	}
	for _, drop := range []int{-1 << 63, -1000000001, -1000000000, -2, 1000000001, 1<<63 - 1} {
		refuses(t, inData(api.DataDef{Name: "d", Variants: v, Drop: drop}))
	}
	refuses(t, inData(api.DataDef{Name: "d"}))
	refuses(t, inData(api.DataDef{Name: "d", Variants: []api.VariantDef{}}))
	refuses(t, inData(api.DataDef{Variants: v}))
	refuses(t, inData(api.DataDef{Name: "d", Variants: v, Params: []string{""}}))
	refuses(t, inData(api.DataDef{Name: "d", Variants: []api.VariantDef{{Name: "v"}, {}}}))
}

// P3.1: types with as many arguments as they have to have, and with others.
func TestTypes(t *testing.T) {
	n := named("Int")
	for _, c := range []struct {
		ty   api.TypeExpr
		want string
	}{
		{n, "Int"}, {named("Arena"), "Arena"}, {named("Box", n), "Box<Int>"}, {named("Chan", n), "Chan<Int>"}, {named("&", n), "&Int"}, {named("&!", n), "&!Int"}, {named("T"), "T"}, {named("T", n), "T<Int>"}, {named("T", n, named("&", n), n), "T<Int, &Int, Int>"}, {named("&", named("&", named("&!", named("&", n)))), "&&&!&Int"}, {named("Box", named("&!", named("T", named("Chan", n), named("U")))), "Box<&!T<Chan<Int>, U>>"},
		{named(""), ""}, {named("Int", n), ""}, {named("Arena", n), ""}, {named("Box"), ""}, {named("Box", n, n), ""}, {named("Chan"), ""}, {named("Chan", n, n), ""}, {named("&"), ""}, {named("&", n, n), ""}, {named("&!"), ""}, {named("&!", n, n), ""}, {named("*", n), ""}, {named("fn"), ""}, {named("T", named("")), ""}, {named("T", n, named("Box")), ""}, {named("&", named("&")), ""}, {named("Int", api.TypeExpr{}), ""},
	} {
		f := api.FuncDef{Name: "f", Args: []api.ArgDef{{Name: "a", Type: c.ty}}, Result: c.ty}
		local := api.FuncDef{Name: "g", Captures: []api.ArgDef{{Name: "a", Type: c.ty}}, Result: n}
		let := api.Stmt{Kind: api.StLet, Name: "x", Type: []api.TypeExpr{c.ty}, Expr: api.Expr{Kind: api.ExChan, Type: []api.TypeExpr{c.ty}}}
		data := api.DataDef{Name: "d", Variants: []api.VariantDef{{Name: "v", Fields: []api.TypeExpr{n, c.ty}}}}
		impl := api.ImplDef{Trait: "T", Type: c.ty, Func: "f"}
		for _, x := range []struct {
			m    api.Module
			want string
		}{
			{api.Module{Name: "m", Funcs: []api.FuncDef{f}}, "fn f(a: " + c.want + ") -> " + c.want + " {\n}\n"},
			{inLocal(local), "fn f() -> Int {\n  fn g[move a: " + c.want + "]() -> Int {\n  }\n}\n"},
			{inBlock(let), "fn f() -> Int {\n  let x: " + c.want + " = chan " + c.want + ";\n}\n"},
			{inData(data), "data d {\n  v(Int, " + c.want + ")\n};\n"},
			{api.Module{Name: "m", Impls: []api.ImplDef{impl}}, "impl T for " + c.want + " = f;\n"},
		} {
			if c.want == "" {
				refuses(t, x.m)
			} else {
				prints(t, x.m, x.want)
			}
		}
	}
}

// P3.1: what numbers, operators and names expressions can have.
func TestExpressions(t *testing.T) {
	one, two := []string{"a"}, []string{"a", "b"}
	for _, c := range []struct {
		e    api.Expr
		want string
	}{
		{api.Expr{Kind: api.ExNumber}, "0"}, {api.Expr{Kind: api.ExNumber, Number: 1000000000}, "1000000000"}, {api.Expr{Kind: api.ExNumber, Number: -1000000000}, "-1000000000"}, {api.Expr{Kind: api.ExNumber, Number: 1000000001}, ""}, {api.Expr{Kind: api.ExNumber, Number: -1000000001}, ""},
		{api.Expr{Kind: api.ExField, Names: one}, "a.0"}, {api.Expr{Kind: api.ExField, Names: one, Number: 1000000000}, "a.1000000000"}, {api.Expr{Kind: api.ExField, Names: one, Number: 1000000001}, ""}, {api.Expr{Kind: api.ExField, Names: one, Number: -1}, ""}, {api.Expr{Kind: api.ExField, Names: two}, ""}, {api.Expr{Kind: api.ExField}, ""},
		{api.Expr{Kind: api.ExBinary, Op: "+", Names: two}, "a + b"}, {api.Expr{Kind: api.ExBinary, Op: "-", Names: two}, "a - b"}, {api.Expr{Kind: api.ExBinary, Op: "*", Names: two}, "a * b"}, {api.Expr{Kind: api.ExBinary, Op: "<", Names: two}, "a < b"}, {api.Expr{Kind: api.ExBinary, Op: "==", Names: two}, "a == b"},
		{api.Expr{Kind: api.ExBinary, Names: two}, ""}, {api.Expr{Kind: api.ExBinary, Op: "/", Names: two}, ""}, {api.Expr{Kind: api.ExBinary, Op: "+ ", Names: two}, ""}, {api.Expr{Kind: api.ExBinary, Op: "+ -", Names: two}, ""}, {api.Expr{Kind: api.ExBinary, Op: "=", Names: two}, ""}, {api.Expr{Kind: api.ExBinary, Op: "+", Names: one}, ""}, {api.Expr{Kind: api.ExBinary, Op: "+", Names: []string{"a", "b", "c"}}, ""}, {api.Expr{Kind: api.ExBinary, Op: "+", Names: []string{"a", ""}}, ""},
		{api.Expr{Kind: api.ExNew, Name: "d", Variant: "v"}, "new d.v"}, {api.Expr{Kind: api.ExNew, Name: "d", Variant: "v", Names: []string{"a", "b", "c"}}, "new d.v(a, b, c)"}, {api.Expr{Kind: api.ExNew, Name: "d"}, ""}, {api.Expr{Kind: api.ExNew, Variant: "v"}, ""},
		{api.Expr{Kind: api.ExCall, Name: "f"}, "f()"}, {api.Expr{Kind: api.ExCall, Name: "f", Names: one}, "f(a)"}, {api.Expr{Kind: api.ExCall}, ""}, {api.Expr{Kind: api.ExCall, Name: "f", Names: []string{""}}, ""},
		{api.Expr{Kind: api.ExAlloc, Names: two}, "alloc a b"}, {api.Expr{Kind: api.ExAlloc, Names: one}, ""}, {api.Expr{Kind: api.ExAlloc, Names: []string{"a", "b", "c"}}, ""},
		{api.Expr{Kind: api.ExChan, Type: []api.TypeExpr{named("T")}}, "chan T"}, {api.Expr{Kind: api.ExChan}, ""}, {api.Expr{Kind: api.ExChan, Type: []api.TypeExpr{named("T"), named("T")}}, ""},
		{api.Expr{Kind: api.ExArena}, "arena"}, {api.Expr{}, ""}, {api.Expr{Kind: -1}, ""}, {api.Expr{Kind: 21}, ""}, {api.Expr{Kind: 1 << 62}, ""}, {api.Expr{Kind: -1 << 63}, ""},
	} {
		if c.want == "" {
			refuses(t, inLet(c.e))
		} else {
			prints(t, inLet(c.e), "fn f() -> Int {\n  let x = "+c.want+";\n}\n")
		}
	}
	for _, kind := range []int{api.ExName, api.ExBox, api.ExUnbox, api.ExShare, api.ExLend, api.ExReShare, api.ExReLend, api.ExInShare, api.ExInLend, api.ExLoad, api.ExRecv} {
		refuses(t, inLet(api.Expr{Kind: kind}))
		refuses(t, inLet(api.Expr{Kind: kind, Names: two}))
		refuses(t, inLet(api.Expr{Kind: kind, Names: []string{"move"}}))
	}
}

// statementFields and expressionFields are the fields that the chapter mentions for each kind.
var statementFields = map[int]string{
	api.StLet: "Name Type Expr", api.StSet: "Name Expr", api.StStore: "Name Names", api.StSend: "Name Names", api.StIf: "Name Then Else", api.StWhile: "Name Then", api.StMatch: "Name Arms",
	api.StReturn: "Name", api.StDrop: "Name", api.StPrint: "Name", api.StPanic: "", api.StSpawn: "Name Names", api.StFunc: "Func",
}

var expressionFields = map[int]string{
	api.ExNumber: "Number", api.ExBinary: "Op Names", api.ExNew: "Name Variant Names", api.ExField: "Number Names", api.ExCall: "Name Names", api.ExMethod: "Name Names", api.ExArena: "", api.ExAlloc: "Names", api.ExChan: "Type",
	api.ExName: "Names", api.ExBox: "Names", api.ExUnbox: "Names", api.ExShare: "Names", api.ExLend: "Names", api.ExReShare: "Names", api.ExReLend: "Names", api.ExInShare: "Names", api.ExInLend: "Names", api.ExLoad: "Names", api.ExRecv: "Names",
}

// full is a statement that has all fields, with an expression that has all fields.
var full = api.Stmt{
	Name: "x", Names: []string{"a"}, Type: []api.TypeExpr{{Name: "Int"}}, Then: []api.Stmt{{Kind: api.StPanic}}, Else: []api.Stmt{{Kind: api.StPanic}},
	Arms: []api.ArmDef{{Variant: "v"}}, Func: []api.FuncDef{{Name: "g", Result: api.TypeExpr{Name: "Int"}}},
	Expr: api.Expr{Kind: api.ExNumber, Op: "+", Name: "f", Variant: "v", Names: []string{"a"}, Number: 1, Type: []api.TypeExpr{{Name: "Int"}}},
}

// fill sets the fields of a struct that are mentioned to those of another one.
func fill(v, from reflect.Value, fields string) {
	for _, name := range strings.Fields(fields) {
		v.FieldByName(name).Set(from.FieldByName(name))
	}
}

// P3.1: all fields that are not mentioned for a kind are zero.
func TestOtherFields(t *testing.T) {
	number := full
	number.Expr = api.Expr{Kind: api.ExNumber, Number: 1}
	for kind, fields := range statementFields {
		for _, other := range others("Name Names Type Expr Then Else Arms Func", fields) {
			s := api.Stmt{Kind: kind}
			fill(reflect.ValueOf(&s).Elem(), reflect.ValueOf(number), fields)
			if !Printable(inBlock(s)) {
				t.Errorf("statement %+v", s)
			}
			fill(reflect.ValueOf(&s).Elem(), reflect.ValueOf(number), other)
			refuses(t, inBlock(s))
		}
	}
	for kind, fields := range expressionFields {
		for _, other := range others("Op Name Variant Names Number Type", fields) {
			e := api.Expr{Kind: kind}
			fill(reflect.ValueOf(&e).Elem(), reflect.ValueOf(full.Expr), fields)
			if kind == api.ExBinary || kind == api.ExAlloc {
				e.Names = []string{"a", "b"}
			}
			if !Printable(inLet(e)) {
				t.Errorf("expression %+v", e)
			}
			fill(reflect.ValueOf(&e).Elem(), reflect.ValueOf(full.Expr), other)
			refuses(t, inLet(e))
		}
	}
	for _, other := range others("Kind Op Name Variant Names Number Type", "") {
		s := api.Stmt{Kind: api.StReturn, Name: "x"}
		fill(reflect.ValueOf(&s.Expr).Elem(), reflect.ValueOf(full.Expr), other)
		refuses(t, inBlock(s))
	}
}

// others returns the fields that are not mentioned, each alone and with each other one.
func others(all, fields string) []string {
	var list []string
	for _, a := range strings.Fields(all) {
		for _, b := range strings.Fields(all) {
			if not := " " + fields + " "; !strings.Contains(not, " "+a+" ") && !strings.Contains(not, " "+b+" ") {
				list = append(list, a+" "+b)
			}
		}
	}
	return list
}

// P3.1: how many elements the lists of statements have.
func TestStatements(t *testing.T) {
	panics := []api.Stmt{{Kind: api.StPanic}}
	n := named("Int")
	g := api.FuncDef{Name: "g", Result: n}
	for _, c := range []struct {
		s    api.Stmt
		want string
	}{
		{api.Stmt{Kind: api.StIf, Name: "x"}, "if x {\n  }"}, {api.Stmt{Kind: api.StIf, Name: "x", Then: panics, Else: []api.Stmt{}}, "if x {\n    panic;\n  }"}, {api.Stmt{Kind: api.StIf, Name: "x", Else: panics}, "if x {\n  } else {\n    panic;\n  }"},
		{api.Stmt{Kind: api.StMatch, Name: "x", Arms: []api.ArmDef{{Variant: "v"}}}, "match x {\n    v {\n    }\n  }"}, {api.Stmt{Kind: api.StMatch, Name: "x", Arms: []api.ArmDef{{Variant: "v", Names: []string{"a"}}, {Variant: "w", Names: []string{"a", "b", "c"}, Body: panics}}}, "match x {\n    v(a) {\n    }\n    w(a, b, c) {\n      panic;\n    }\n  }"},
		{api.Stmt{Kind: api.StMatch, Name: "x"}, ""}, {api.Stmt{Kind: api.StMatch, Name: "x", Arms: []api.ArmDef{{}}}, ""}, {api.Stmt{Kind: api.StMatch, Name: "x", Arms: []api.ArmDef{{Variant: "v", Names: []string{""}}}}, ""}, {api.Stmt{Kind: api.StMatch, Name: "x", Arms: []api.ArmDef{{Variant: "v", Body: []api.Stmt{{}}}}}, ""},
		{api.Stmt{Kind: api.StSpawn, Name: "f"}, "spawn f();"}, {api.Stmt{Kind: api.StSpawn, Name: "f", Names: []string{"a", "b", "c"}}, "spawn f(a, b, c);"}, {api.Stmt{Kind: api.StSpawn, Name: "f", Names: []string{"a", "in"}}, ""},
		{api.Stmt{Kind: api.StStore, Name: "x", Names: []string{"a"}}, "*x = a;"}, {api.Stmt{Kind: api.StStore, Name: "x"}, ""}, {api.Stmt{Kind: api.StStore, Name: "x", Names: []string{"a", "b"}}, ""},
		{api.Stmt{Kind: api.StSend, Name: "x", Names: []string{"a"}}, "send x a;"}, {api.Stmt{Kind: api.StSend, Name: "x"}, ""}, {api.Stmt{Kind: api.StSend, Name: "x", Names: []string{"a", "b"}}, ""},
		{api.Stmt{Kind: api.StLet, Name: "x", Type: []api.TypeExpr{n, n}, Expr: api.Expr{Kind: api.ExArena}}, ""}, {api.Stmt{Kind: api.StLet, Name: "x"}, ""}, {api.Stmt{Kind: api.StSet, Name: "x"}, ""}, {api.Stmt{Kind: api.StSet, Expr: api.Expr{Kind: api.ExArena}}, ""},
		{api.Stmt{Kind: api.StFunc, Func: []api.FuncDef{g}}, "fn g[]() -> Int {\n  }"}, {api.Stmt{Kind: api.StFunc}, ""}, {api.Stmt{Kind: api.StFunc, Func: []api.FuncDef{g, g}}, ""},
		{api.Stmt{}, ""}, {api.Stmt{Kind: -1}, ""}, {api.Stmt{Kind: 14}, ""}, {api.Stmt{Kind: 1 << 62}, ""}, {api.Stmt{Kind: -1 << 63}, ""},
	} {
		if c.want == "" {
			refuses(t, inBlock(c.s))
		} else {
			prints(t, inBlock(c.s), "fn f() -> Int {\n  "+c.want+"\n}\n")
		}
	}
}

// P3.1: local functions have captures, others have parameters and bounds; Capture has a meaning only in captures.
func TestFunctions(t *testing.T) {
	n := named("Int")
	arg := api.ArgDef{Name: "a", Type: n}
	lent := api.ArgDef{Name: "a", Type: n, Capture: api.CaptureShared}
	local := api.FuncDef{Name: "g", Captures: []api.ArgDef{arg}, Result: n}
	prints(t, inLocal(local), "fn f() -> Int {\n  fn g[move a: Int]() -> Int {\n  }\n}\n")
	for capture, want := range map[int]string{api.CaptureMove: "move ", api.CaptureShared: "&", api.CaptureExcl: "&!"} {
		local.Captures = []api.ArgDef{{Name: "a", Type: n, Capture: capture}, arg}
		prints(t, inLocal(local), "fn f() -> Int {\n  fn g["+want+"a: Int, move a: Int]() -> Int {\n  }\n}\n")
	}
	for _, capture := range []int{-1 << 63, -1, 3, 1 << 62} {
		local.Captures = []api.ArgDef{{Name: "a", Type: n, Capture: capture}}
		refuses(t, inLocal(local))
	}
	refuses(t, inLocal(api.FuncDef{Name: "g", Result: n, Params: []string{"T"}}))
	refuses(t, inLocal(api.FuncDef{Name: "g", Result: n, Bounds: []api.BoundDef{{Param: "T", Trait: "U"}}}))
	refuses(t, inLocal(api.FuncDef{Name: "g", Result: n, Args: []api.ArgDef{lent}}))
	refuses(t, inLocal(api.FuncDef{Result: n}))
	for _, f := range []api.FuncDef{
		{Name: "f", Result: n, Captures: []api.ArgDef{arg}}, {Name: "f", Result: n, Args: []api.ArgDef{lent}}, {Name: "f"}, {Result: n}, {Name: "in", Result: n}, {Name: "f", Result: n, Params: []string{"T", ""}}, {Name: "f", Result: n, Bounds: []api.BoundDef{{Param: "T"}}}, {Name: "f", Result: n, Bounds: []api.BoundDef{{Trait: "T"}}}, {Name: "f", Result: n, Body: []api.Stmt{{}}},
	} {
		refuses(t, api.Module{Name: "m", Funcs: []api.FuncDef{f}})
		if s := Func(f); s != "" {
			t.Errorf("%+v: %q", f, s)
		}
	}
}

// P0.1, P3.1: texts that are too long for the lexer, and deep nesting.
func TestLargeModules(t *testing.T) {
	many := api.Module{Name: "m", Uses: make([]string, 5000)}
	for i := range many.Uses {
		many.Uses[i] = "u"
	}
	prints(t, many, strings.Repeat("use u;\n", 5000))
	const depth = 1 << 16
	ty := named("Int")
	nested := api.Stmt{Kind: api.StPanic}
	for range depth - 2 {
		ty = named("Box", ty)
		nested = api.Stmt{Kind: api.StWhile, Name: "x", Then: []api.Stmt{nested}}
	}
	f := api.FuncDef{Name: "f", Result: ty}
	if s := Func(f); s != "fn f() -> "+strings.Repeat("Box<", depth-2)+"Int"+strings.Repeat(">", depth-2)+" {\n}\n" {
		t.Errorf("%d bytes of nested types", len(s))
	}
	if !Printable(inBlock(nested)) {
		t.Error("nested statements are not printable")
	}
}
