package lift

import (
	"strings"
	"testing"

	"leasehold/api"
)

// finds checks the error of a module. A mark @ in its items, which is left out, says where it has to be found.
func finds(t *testing.T, items, want string) {
	t.Helper()
	mark := strings.Index(items, "@")
	m := read(t, strings.Replace(items, "@", "", 1))
	if mark >= 0 {
		mark += len("module m; ")
	} else {
		mark = 0
	}
	_, err, at := Lift(m)
	if got := checkLift(t, m); !strings.HasPrefix(got, want) || err != api.OK && at != mark {
		t.Errorf("%s: %s, want %s at %d", items, got, want, mark)
	}
}

// P9.1: errors that a module can have which was parsed.
func TestErrorsOfTexts(t *testing.T) {
	for _, test := range []struct{ items, want string }{
		{"fn f() -> Int { fn g[move a: Int, @&a: Int]() -> Int { } }", "!twice"},
		{"fn f() -> Int { fn g[move a: Int, &b: Int, @&a: Int, &b: Int]() -> Int { } }", "!twice"},
		{"fn f() -> Int { fn g[](a: Int, b: Int, @a: Int) -> Int { } }", "!twice"},
		{"fn f() -> Int { fn g[&!a: Int](b: Int, @a: Int, b: Int) -> Int { } }", "!twice"},
		{"fn f() -> Int { fn g[&a: Int, &b: Int, @&!b: Int](a: Int) -> Int { } }", "!twice"},
		{"fn f() -> Int { @fn g[](a: Int, b: Int, c: Int, d: Int, e: Int, f: Int, g: Int, h: Int, i: Int) -> Int { } }", "!limit"},
		{"fn f() -> Int { @fn g[&a: Int, &b: Int, &c: Int, &d: Int, &e: Int, &f: Int, &g: Int, &h: Int, &i: Int]() -> Int { } }", "!limit"},
		{"fn f() -> Int { @fn g[&a: Int, &b: Int, &c: Int, &d: Int](e: Int, f: Int, g: Int, h: Int, i: Int) -> Int { } }", "!limit"},
		{"fn f() -> Int { fn g[&a: Int, &b: Int, &c: Int, &d: Int](e: Int, f: Int, g: Int, h: Int, @a: Int) -> Int { } }", "!twice"},
		{"fn f() -> Int { fn g[&a: Int, &b: Int, &c: Int, &d: Int](e: Int, f: Int, g: Int, h: Int, i: Int, @a: Int) -> Int { } }", "!twice"},
		{"fn f() -> Int { fn g[&a: Int, &b: Int, &c: Int, &d: Int](e: Int, f: Int, g: Int, h: Int) -> Int { } }", "OK"},
		{"fn f() -> Int { fn g[](a: Int, b: Int, c: Int, d: Int, e: Int, f: Int, g: Int, h: Int) -> Int { } }", "OK"},
		{"fn f() -> Int { fn g[&a: Int, &b: Int, &c: Int, &d: Int, &e: Int, &f: Int, &g: Int, &h: Int]() -> Int { } }", "OK"},
		// a function of the module can have any arguments
		{"fn f(a: Int, a: Int, b: Int, c: Int, d: Int, e: Int, f: Int, g: Int, h: Int, i: Int) -> Int { }", "OK"},
		// names in other functions are others
		{"fn f(a: Int) -> Int { fn g[move a: Int](b: Int) -> Int { fn h[&a: Int](b: Int) -> Int { } } fn h[&a: Int](b: Int) -> Int { } }", "OK"},
	} {
		finds(t, test.items, test.want)
	}
}

// P9.1: of several errors, the first one in the text.
func TestOrderOfErrors(t *testing.T) {
	const twice, many = "fn g[](a: Int, @a: Int) -> Int { } ", "@fn g[](a: Int, b: Int, c: Int, d: Int, e: Int, f: Int, g: Int, h: Int, i: Int) -> Int { } "
	unmarked := strings.NewReplacer("@", "")
	for _, around := range []string{
		"fn f() -> Int { 1 2 }",
		"fn f() -> Int { 1 } fn g() -> Int { 2 }",
		"fn f() -> Int { if x { 1 } 2 }",
		"fn f() -> Int { if x { 1 } else { 2 } }",
		"fn f() -> Int { if x { } else { 1 } 2 }",
		"fn f() -> Int { while x { 1 } 2 }",
		"fn f() -> Int { match x { v { 1 } w { 2 } } }",
		"fn f() -> Int { match x { v { } w { 1 } } 2 }",
		"fn f() -> Int { fn h[]() -> Int { 1 } 2 }",
		"fn f() -> Int { fn h[]() -> Int { fn i[]() -> Int { 1 } 2 } }",
		"fn f() -> Int { fn h[]() -> Int { while x { fn i[]() -> Int { 1 } } } 2 }",
	} {
		for _, test := range [][3]string{{twice, many, "!twice"}, {many, twice, "!limit"}, {twice, twice, "!twice"}, {many, many, "!limit"}} {
			finds(t, strings.NewReplacer("1", test[0], "2", unmarked.Replace(test[1])).Replace(around), test[2])
		}
	}
	// a local function before those in it
	finds(t, "fn f() -> Int { fn g[](a: Int, @a: Int) -> Int { "+unmarked.Replace(many)+"} }", "!twice")
	finds(t, "fn f() -> Int { "+strings.Replace(many, "{ }", "{ "+unmarked.Replace(twice)+"}", 1)+"}", "!limit")
}

// at makes a statement with an offset, a Kind, and functions.
func at(offset, kind int, functions ...api.FuncDef) api.Stmt {
	return api.Stmt{Kind: kind, Offset: offset, Func: functions}
}

// P9.1: errors that no parsed module can have.
func TestErrorsOfModules(t *testing.T) {
	g, bad := api.FuncDef{Name: "g"}, at(90, api.StFunc)
	right := at(1, api.StFunc, g)
	then, otherwise, arms, captured := at(7, api.StFunc, g), at(7, api.StFunc, g), at(7, api.StFunc, g), g
	then.Then, otherwise.Else, arms.Arms = []api.Stmt{bad}, []api.Stmt{right}, []api.ArmDef{{}}
	captured.Captures = []api.ArgDef{{Name: "a", Offset: 91}, {Name: "a", Offset: 92}}
	inIf, inArm := at(5, api.StIf), at(5, api.StMatch)
	inIf.Then, inIf.Else = []api.Stmt{right, then}, []api.Stmt{bad}
	inArm.Arms = []api.ArmDef{{Body: []api.Stmt{right}}, {Body: []api.Stmt{otherwise}}, {Body: []api.Stmt{bad}}}
	twoOfThem := at(7, api.StIf, g, g)
	twoOfThem.Then = []api.Stmt{bad}
	for i, test := range []struct {
		body []api.Stmt
		want string
	}{
		{[]api.Stmt{right}, "OK"},
		{[]api.Stmt{right, at(7, api.StFunc), bad}, "!arg at 7"},
		{[]api.Stmt{at(7, api.StFunc, g, g), bad}, "!arg at 7"},
		{[]api.Stmt{at(7, api.StFunc, captured, g)}, "!arg at 7"},
		{[]api.Stmt{then}, "!arg at 7"},
		{[]api.Stmt{otherwise}, "!arg at 7"},
		{[]api.Stmt{arms}, "!arg at 7"},
		{[]api.Stmt{at(7, api.StPanic, g)}, "!arg at 7"},
		{[]api.Stmt{at(7, api.StLet, captured)}, "!arg at 7"},
		{[]api.Stmt{at(7, 0, g)}, "!arg at 7"},
		{[]api.Stmt{at(7, -1, g)}, "!arg at 7"},
		{[]api.Stmt{at(7, api.StFunc+1, g)}, "!arg at 7"},
		{[]api.Stmt{twoOfThem}, "!arg at 7"},
		{[]api.Stmt{inIf, bad}, "!arg at 7"},
		{[]api.Stmt{inArm, bad}, "!arg at 7"},
		{[]api.Stmt{at(1, api.StFunc, api.FuncDef{Name: "g", Body: []api.Stmt{at(7, api.StPrint, g)}}), bad}, "!arg at 7"},
		{[]api.Stmt{at(1, api.StFunc, captured), bad}, "!twice at 92"},
	} {
		m := api.Module{Name: "m", Uses: []string{"n"}, Funcs: []api.FuncDef{{Name: "f", Body: test.body, Offset: 8}}}
		if got := checkLift(t, m); got != test.want {
			t.Errorf("%d: %s, want %s", i, got, test.want)
		}
	}
}

// P9.1: a function of the module with captures, among other errors.
func TestCapturesOfModules(t *testing.T) {
	captured := api.FuncDef{Name: "c", Captures: []api.ArgDef{{Name: "a", Offset: 50}, {Name: "a", Offset: 51}}, Offset: 9, Body: []api.Stmt{at(60, api.StFunc)}}
	wrong := api.FuncDef{Name: "w", Offset: 40, Body: []api.Stmt{at(70, api.StFunc)}}
	right := api.FuncDef{Name: "r"}
	for i, test := range []struct {
		funcs []api.FuncDef
		want  string
	}{
		{[]api.FuncDef{captured}, "!arg at 9"},
		{[]api.FuncDef{right, captured, wrong}, "!arg at 9"},
		{[]api.FuncDef{wrong, captured}, "!arg at 70"},
	} {
		if got := checkLift(t, api.Module{Name: "m", Funcs: test.funcs}); got != test.want {
			t.Errorf("%d: %s, want %s", i, got, test.want)
		}
	}
}
