package lift

import (
	"math/rand/v2"
	"reflect"
	"slices"
	"strconv"
	"strings"
	"testing"
	"time"

	"leasehold/api"
)

// levels are as many as a program can have.
const levels = 60000

// soon fails if something takes far longer than it has to.
func soon(t *testing.T, name string, f func()) {
	t.Helper()
	start := time.Now()
	f()
	if d := time.Since(start); d > 20*time.Second {
		t.Errorf("%s takes %v", name, d)
	}
}

func local(f api.FuncDef) api.Stmt {
	return api.Stmt{Kind: api.StFunc, Func: []api.FuncDef{f}}
}

func spawn(name string) api.Stmt { return api.Stmt{Kind: api.StSpawn, Name: name} }

// of returns a module with one function.
func of(body ...api.Stmt) api.Module {
	return api.Module{Name: "m", Funcs: []api.FuncDef{{Name: "f", Params: []string{"P"}, Body: body}}}
}

// within puts statements into a block of another statement.
func within(i int, body []api.Stmt) api.Stmt {
	switch i % 3 {
	case 0:
		return api.Stmt{Kind: api.StIf, Then: body}
	case 1:
		return api.Stmt{Kind: api.StIf, Else: body}
	}
	return api.Stmt{Kind: api.StMatch, Arms: []api.ArmDef{{}, {Body: body}}}
}

// P0.1: blocks in blocks, each with a local function, all of which are visible in the innermost one.
func TestDeepBlocks(t *testing.T) {
	name := func(i int) string { return "g" + strconv.Itoa(i) }
	body := []api.Stmt{spawn(name(levels - 1)), spawn(name(0))}
	for i := range levels {
		body = []api.Stmt{local(api.FuncDef{Name: name(i)}), within(i, body), spawn(name(i)), spawn(name(i - 1))}
	}
	soon(t, "lifting deep blocks", func() {
		lifted, err, at := Lift(of(body...))
		if err != api.OK || len(lifted.Funcs) != levels+1 || lifted.Funcs[levels].Name != "f."+strconv.Itoa(levels-1)+".g0" {
			t.Fatal(outcome(err, at), len(lifted.Funcs))
		}
		body = lifted.Funcs[0].Body
	})
	for i := range levels {
		outer := levels - 1 - i
		if call := "f." + strconv.Itoa(i) + "." + name(outer); body[1].Name != call || body[2].Name != name(outer-1) {
			t.Fatalf("%s is called as %s", call, body[1].Name)
		}
		inside(body[0], nil, func(block []api.Stmt, _ way) {
			if len(block) > 0 {
				body = block
			}
		})
	}
	if body[0].Name != "f.0."+name(levels-1) || body[1].Name != "f."+strconv.Itoa(levels-1)+".g0" {
		t.Errorf("the innermost block is %+v", body)
	}
}

// nested returns a local function in a local function, and so on, with a body for the innermost one.
func nested(n int, body ...api.Stmt) api.Stmt {
	for range n {
		body = []api.Stmt{local(api.FuncDef{Name: "g", Body: body})}
	}
	return body[0]
}

// P0.1: local functions in local functions.
func TestDeepFunctions(t *testing.T) {
	const n = 10000
	soon(t, "lifting deep functions", func() {
		lifted, err, at := Lift(of(nested(n, api.Stmt{Kind: api.StLet, Type: []api.TypeExpr{{Name: "P"}}}), spawn("g")))
		if err != api.OK || len(lifted.Funcs) != n+1 || lifted.Funcs[n].Name != "f"+strings.Repeat(".0.g", n) {
			t.Fatal(outcome(err, at), len(lifted.Funcs))
		}
		for _, f := range lifted.Funcs {
			if len(f.Params) != 1 {
				t.Fatalf("%d has %q", len(f.Name), f.Params)
			}
		}
	})
	// no names are made up before an error, as all of them together would be far longer than the module
	soon(t, "an error in deep functions", func() {
		for name, wrong := range map[string]api.Stmt{"!arg": {Kind: api.StFunc, Offset: 7}, "!limit": local(api.FuncDef{Args: numbered(9), Offset: 7}), "!twice": local(api.FuncDef{Args: []api.ArgDef{{}, {Offset: 7}}})} {
			if lifted, err, at := Lift(of(nested(levels, wrong))); outcome(err, at) != name+" at 7" || !equal(lifted, api.Module{}) {
				t.Errorf("%s, want %s", outcome(err, at), name)
			}
		}
	})
}

// P0.1: types in types, with a parameter in the innermost one.
func TestDeepTypes(t *testing.T) {
	deep := api.TypeExpr{Name: "P", Offset: 7}
	for range levels {
		deep = api.TypeExpr{Name: "Box", Args: []api.TypeExpr{deep}}
	}
	m := of(local(api.FuncDef{Name: "g", Captures: []api.ArgDef{{Type: deep, Capture: api.CaptureExcl}}}), local(api.FuncDef{Name: "h"}))
	m.Datas = []api.DataDef{{Variants: []api.VariantDef{{Fields: []api.TypeExpr{deep}}}}}
	m.Impls = []api.ImplDef{{Type: deep}}
	lifted, err, at := Lift(m)
	if err != api.OK || len(lifted.Funcs[1].Params) != 1 || len(lifted.Funcs[2].Params) != 0 {
		t.Fatal(outcome(err, at))
	}
	for _, x := range []api.TypeExpr{lifted.Funcs[1].Args[0].Type.Args[0], lifted.Datas[0].Variants[0].Fields[0], lifted.Impls[0].Type} {
		n := 0
		for ; len(x.Args) == 1; n++ {
			x = x.Args[0]
		}
		if n != levels || x.Name != "P" || x.Offset != 7 {
			t.Errorf("%d levels, and %+v", n, x)
		}
	}
}

// numbered returns arguments with different names.
func numbered(n int) []api.ArgDef {
	var l []api.ArgDef
	for i := range n {
		l = append(l, api.ArgDef{Name: "a" + strconv.Itoa(i), Offset: i})
	}
	return l
}

// P0.1: very many captures and arguments.
func TestManyArguments(t *testing.T) {
	for _, n := range []int{9, 100000} {
		f := api.FuncDef{Name: "g", Captures: numbered(n), Offset: 3}
		soon(t, "many arguments", func() {
			if _, err, at := Lift(of(local(f))); outcome(err, at) != "!limit at 3" {
				t.Error(outcome(err, at))
			}
			f.Args = []api.ArgDef{{Name: "b"}, {Name: "a" + strconv.Itoa(n-1), Offset: 5}, {Name: "a0"}}
			if _, err, at := Lift(of(local(f))); outcome(err, at) != "!twice at 5" {
				t.Error(outcome(err, at))
			}
		})
	}
}

// P0.1: very many local functions that are visible in very many blocks, each with a local function of its own.
func TestManyBlocks(t *testing.T) {
	const n = 50000
	var body []api.Stmt
	for i := range n {
		body = append(body, local(api.FuncDef{Name: "g" + strconv.Itoa(i)}))
	}
	for i := range n {
		name := "g" + strconv.Itoa(i)
		body = append(body, within(0, []api.Stmt{spawn(name), local(api.FuncDef{Name: name}), spawn(name)}), spawn(name))
	}
	soon(t, "lifting many blocks", func() {
		lifted, err, at := Lift(of(body...))
		if err != api.OK || len(lifted.Funcs) != 2*n+1 {
			t.Fatal(outcome(err, at), len(lifted.Funcs))
		}
		body = lifted.Funcs[0].Body
		for i := range n {
			name, inner := lifted.Funcs[1+i].Name, lifted.Funcs[1+n+i].Name
			if block := body[2*i].Then; block[0].Name != name || block[1].Name != inner || body[2*i+1].Name != name {
				t.Fatalf("%s and %s are called by %+v", name, inner, body[2*i:2*i+2])
			}
		}
	})
}

// P0.1: very many parameters, bounds, and local functions that mention few of them.
func TestManyParameters(t *testing.T) {
	const n = 50000
	f := api.FuncDef{Name: "f"}
	for i := range n {
		param := "P" + strconv.Itoa(i)
		f.Params = append(f.Params, param)
		f.Bounds = append(f.Bounds, api.BoundDef{Param: "P" + strconv.Itoa((i+1)%n), Trait: "T"})
		f.Body = append(f.Body, local(api.FuncDef{Name: "g", Result: api.TypeExpr{Name: param}, Body: []api.Stmt{local(api.FuncDef{Name: "h"})}}))
	}
	soon(t, "many parameters", func() {
		lifted, err, at := Lift(api.Module{Funcs: []api.FuncDef{f}})
		if err != api.OK || len(lifted.Funcs) != 2*n+1 {
			t.Fatal(outcome(err, at), len(lifted.Funcs))
		}
		for i, g := range lifted.Funcs[1:] {
			if param := "P" + strconv.Itoa(i/2); i%2 == 0 && (!equal(g.Params, []string{param}) || !equal(g.Bounds, []api.BoundDef{{Param: param, Trait: "T"}})) || i%2 == 1 && len(g.Params)+len(g.Bounds) > 0 {
				t.Fatalf("%s has %q and %v", g.Name, g.Params, g.Bounds)
			}
		}
	})
}

// change sets one part of a module to another value, or changes the length of a list.
func change(m *api.Module, values map[reflect.Type][]reflect.Value, r *rand.Rand) {
	var parts []reflect.Value
	eachPart(reflect.ValueOf(m).Elem(), func(v reflect.Value) { parts = append(parts, v) })
	v := parts[1+r.IntN(len(parts)-1)]
	if v.Kind() == reflect.Slice && r.IntN(2) == 0 {
		others := values[v.Type().Elem()]
		v.Set(reflect.Append(v, copied(others[r.IntN(len(others))])))
		return
	}
	others := values[v.Type()]
	v.Set(copied(others[r.IntN(len(others))]))
}

// P0.1: modules of any parts; the description says what comes of them.
func TestAnyModules(t *testing.T) {
	start := read(t, tour)
	values := map[reflect.Type][]reflect.Value{}
	eachPart(reflect.ValueOf(&start).Elem(), func(v reflect.Value) {
		values[v.Type()] = append(values[v.Type()], copied(v), reflect.Zero(v.Type()))
	})
	for _, n := range []int{-1 << 63, -1, 1, 2, 3, api.StLet, api.StSpawn, api.StFunc, api.ExCall, 1<<63 - 1} {
		values[reflect.TypeFor[int]()] = append(values[reflect.TypeFor[int]()], slices.Repeat([]reflect.Value{reflect.ValueOf(n)}, 20)...)
	}
	r := rand.New(rand.NewPCG(3, 4))
	count := map[string]int{}
	for range 60 {
		m := clone(start)
		for range 20 {
			next := clone(m)
			change(&next, values, r)
			word, _, _ := strings.Cut(checkLift(t, next), " ")
			count[word]++
			if word == "OK" || r.IntN(4) == 0 {
				m = next
			}
		}
	}
	few(t, count, 5, "OK", "!arg", "!twice")
}
