package lift

import (
	"cmp"
	"fmt"
	"reflect"
	"slices"
	"strings"
	"testing"

	"leasehold/api"
)

// few checks that each outcome of a test was there often enough.
func few[K comparable](t *testing.T, count map[K]int, least int, outcomes ...K) {
	t.Helper()
	for _, x := range outcomes {
		if count[x] < least {
			t.Errorf("only %d cases of %v", count[x], x)
		}
	}
}

// checkLift checks P9.1 and P9.2 to P9.4, P9.7 and P9.8 for a module, and returns the outcome.
func checkLift(t testing.TB, m api.Module) string {
	t.Helper()
	before := fmt.Sprintf("%+v", m)
	lifted, err, at := Lift(m)
	if fmt.Sprintf("%+v", m) != before {
		t.Fatalf("the argument was changed: %s", before)
	}
	got := outcome(err, at)
	if list := complaints(m); len(list) > 0 {
		if first := list[0]; err != first.err || at != first.offset || !equal(lifted, api.Module{}) {
			t.Fatalf("%s\n got %s with %+v\nwant %+v", before, got, lifted, first)
		}
		return got
	}
	if got != "OK" {
		t.Fatalf("%s\n got %s", before, got)
	}
	if want := describeLift(m); !equal(lifted, want) {
		t.Fatalf("%s\n got %+v\nwant %+v", before, lifted, want)
	}
	checkAllLifted(t, m, lifted)
	checkFunctions(t, m, lifted)
	checkIndependence(t, m, lifted)
	for i, f := range m.Funcs {
		checkOrder(t, withoutLocals(f.Body), lifted.Funcs[i].Body)
	}
	return got
}

// checkAllLifted checks P9.2 and P9.3.
func checkAllLifted(t testing.TB, m, lifted api.Module) {
	t.Helper()
	if n := len(places(m)); len(lifted.Funcs) != n || len(places(lifted)) != n || n == len(m.Funcs) && !equal(m, lifted) {
		t.Fatalf("%+v\n got %+v", m, lifted)
	}
	if again, err, at := Lift(lifted); err != api.OK || at != 0 || !equal(again, lifted) {
		t.Fatalf("%+v\nis lifted again to %+v, %s", lifted, again, outcome(err, at))
	}
}

// checkFunctions checks P9.4.
func checkFunctions(t testing.TB, m, lifted api.Module) {
	t.Helper()
	for i, f := range m.Funcs {
		g := lifted.Funcs[i]
		f.Body, g.Body = nil, nil
		if !equal(f, g) {
			t.Fatalf("%+v\n got %+v", f, g)
		}
	}
}

// checkIndependence checks P9.7.
func checkIndependence(t testing.TB, m, lifted api.Module) {
	t.Helper()
	var functions, locals []api.FuncDef
	for i := range m.Funcs {
		one := m
		one.Funcs = m.Funcs[i : i+1]
		part, _, _ := Lift(one)
		functions, locals = append(functions, part.Funcs[0]), append(locals, part.Funcs[1:]...)
	}
	if all := slices.Concat(functions, locals); !equal(all, lifted.Funcs) {
		t.Fatalf("one by one\n got %+v\nwant %+v", all, lifted.Funcs)
	}
}

// checkOrder checks P9.8: it finds the statements of a block without local functions in the lifted block, between those for captures.
func checkOrder(t testing.TB, block, lifted []api.Stmt) {
	t.Helper()
	lifted = slices.DeleteFunc(slices.Clone(lifted), func(s api.Stmt) bool { return s.Kind == api.StLet && strings.Contains(s.Name, ".") })
	if len(lifted) != len(block) {
		t.Fatalf("%+v\nhas become %+v", block, lifted)
	}
	for i, s := range block {
		if s.Offset != lifted[i].Offset || s.Kind != lifted[i].Kind || len(s.Arms) != len(lifted[i].Arms) {
			t.Fatalf("%+v\nhas become %+v", s, lifted[i])
		}
		checkOrder(t, s.Then, lifted[i].Then)
		checkOrder(t, s.Else, lifted[i].Else)
		for k, a := range s.Arms {
			checkOrder(t, a.Body, lifted[i].Arms[k].Body)
		}
	}
}

// checkCalls checks P9.5: each call of a lifted function has a name for each of its arguments, if this is so for local functions.
func checkCalls(t testing.TB, m api.Module) (calls int) {
	t.Helper()
	lifted, err, at := Lift(m)
	if err != api.OK {
		t.Fatal(outcome(err, at))
	}
	arguments := map[string]int{}
	for _, f := range lifted.Funcs[len(m.Funcs):] {
		arguments[f.Name] = len(f.Args)
	}
	check := func(name string, names []string) {
		n, ok := arguments[name]
		if ok && n != len(names) {
			t.Fatalf("%+v\n%s is called with %q", lifted, name, names)
		}
		if ok {
			calls++
		}
	}
	eachPart(reflect.ValueOf(&lifted.Funcs).Elem(), func(v reflect.Value) {
		switch x := v.Interface().(type) {
		case api.Expr:
			check(x.Name, x.Names)
		case api.Stmt:
			check(x.Name, x.Names)
		}
	})
	return calls
}

// checkNames checks P9.6.
func checkNames(t testing.TB, lifted api.Module) {
	t.Helper()
	seen := map[string]bool{}
	for _, f := range lifted.Funcs {
		if seen[f.Name] {
			t.Fatalf("two functions %s in %+v", f.Name, lifted)
		}
		seen[f.Name] = true
	}
}

// P9.1 to P9.8: random modules, without errors.
func TestRandomModules(t *testing.T) {
	m := seeded(1)
	count := map[string]int{}
	for i := range 1500 {
		m.offset, m.fields = 0, i%2 == 0
		made := m.module()
		if checkLift(t, made) != "OK" {
			t.Fatal("no error can be found")
		}
		lifted, _, _ := Lift(made)
		checkNames(t, lifted)
		count["calls"] += checkCalls(t, m.withArguments(made))
		count["local"] += len(lifted.Funcs) - len(made.Funcs)
		for _, f := range lifted.Funcs[len(made.Funcs):] {
			if strings.Count(f.Name, ".") > 2 {
				count["inner"]++
			}
			if len(f.Params) > 0 && len(f.Bounds) > 0 {
				count["generic"]++
			}
		}
		if len(lifted.Funcs) == len(made.Funcs) && len(made.Funcs) > 0 {
			count["none"]++
		}
	}
	few(t, count, 150, "calls", "local", "inner", "generic", "none")
}

// P9.1: random modules, some parts of which are wrong.
func TestRandomErrors(t *testing.T) {
	m := seeded(2)
	count, rules := map[string]int{}, map[string]int{}
	for i := range 5000 {
		m.offset, m.fields, m.wrong = 0, i%2 == 0, 20+m.IntN(60)
		made := m.module()
		word, _, _ := strings.Cut(checkLift(t, made), " ")
		count[word]++
		if list := complaints(made); len(list) > 0 {
			rules[list[0].rule]++
			if list[0].rule != list[len(list)-1].rule {
				count["several"]++
			}
		}
	}
	few(t, count, 150, "OK", "!arg", "!twice", "!limit", "several")
	few(t, rules, 10, "no function", "two functions", "then", "else", "arms", "not local", "twice", "more than 8", "captures")
}

// Rule: a result shares no memory with the argument, and none of its lists shares memory with another one.
func TestMemory(t *testing.T) {
	m := read(t, tour)
	made := clone(m)
	lifted, err, at := Lift(m)
	if err != api.OK {
		t.Fatal(outcome(err, at))
	}
	type span struct{ from, to uintptr }
	var spans []span
	note := func(v reflect.Value) {
		if v.Kind() == reflect.Slice && v.Cap() > 0 {
			spans = append(spans, span{v.Pointer(), v.Pointer() + uintptr(v.Cap())*v.Type().Elem().Size()})
		}
	}
	eachPart(reflect.ValueOf(&lifted).Elem(), note)
	if len(spans) < 60 {
		t.Errorf("only %d lists", len(spans))
	}
	eachPart(reflect.ValueOf(&m).Elem(), note)
	slices.SortFunc(spans, func(a, b span) int { return cmp.Compare(a.from, b.from) })
	for i := 1; i < len(spans); i++ {
		if spans[i].from < spans[i-1].to {
			t.Fatal("two lists share memory")
		}
	}
	want := clone(lifted)
	eachPart(reflect.ValueOf(&m).Elem(), func(v reflect.Value) {
		if v.Kind() == reflect.String {
			v.SetString("changed")
		}
	})
	if !equal(lifted, want) {
		t.Errorf("the result became %+v", lifted)
	}
	if again, _, _ := Lift(made); !equal(again, want) {
		t.Errorf("another call returns %+v", again)
	}
}

// FuzzLift checks all promises for random modules.
func FuzzLift(f *testing.F) {
	f.Add(uint64(0), 0, false)
	f.Add(uint64(1), 30, true)
	f.Fuzz(func(t *testing.T, seed uint64, wrong int, fields bool) {
		m := seeded(seed)
		m.wrong, m.fields = max(wrong, 0), fields
		made := m.module()
		if checkLift(t, made) == "OK" {
			lifted, _, _ := Lift(made)
			checkNames(t, lifted)
			checkCalls(t, m.withArguments(made))
		}
	})
}
