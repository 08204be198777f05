package resolve

import (
	"math/rand/v2"
	"reflect"
	"slices"
	"strings"
	"testing"

	"leasehold/api"
	"leasehold/parser"
)

// tour are modules with everything that the tables contain.
var tour = []string{lib, "module base; data Leaf { leaf(Int) }; trait Mark; fn mark(x: &Leaf) -> Int { }", `module b; use lib;
data Both<A, B> { both(B, A), none } drop panic;
data Wrap { wrap(Both<Int, Box<Wrap>>) };
trait Eq;
impl<U, V> Eq for Both<U, V> where V: Size, U: Eq = equal;
fn equal<X, Y>(x: &Both<X, Y>) -> Int where X: Eq, Y: Size { }
fn take(a: Arena, b: &Arena) -> Chan<Wrap> { }
`, `module c; use b; use base; use lib;
data Own { own(Wrap, Pair), more(Chan<Own>) };
trait Last;
fn main() -> Int { }
impl Mark for Leaf = mark;
fn rest<T>(x: &!Both<T, Own>, y: T) -> &!Pair where T: Eq { }
fn last(x: &Own) -> Int { }
impl Last for Own = last;
impl Size for Own = last;
`}

// names are names of all kinds, some of which the tour does not have.
var names = strings.Fields("Int Arena Box Chan & &! List Pair Leaf Both Wrap Own Size Show Mark Eq Last size number mark equal take main rest last lib base b c T A B U V X Y x y nope fn")

func tourModules() []api.Module {
	var l []api.Module
	for _, text := range tour {
		m, _, _ := parser.Parse(text)
		l = append(l, m)
	}
	return l
}

// eachPart calls a function with each part of a value, however deep, and the name of its field.
func eachPart(v reflect.Value, field string, f func(v reflect.Value, field string)) {
	f(v, field)
	switch v.Kind() {
	case reflect.Slice:
		for i := range v.Len() {
			eachPart(v.Index(i), field, f)
		}
	case reflect.Struct:
		for i := range v.NumField() {
			eachPart(v.Field(i), v.Type().Field(i).Name, f)
		}
	}
}

// changeable returns the parts of modules that matter and can be changed.
func changeable(l *[]api.Module) []reflect.Value {
	var parts []reflect.Value
	eachPart(reflect.ValueOf(l).Elem(), "", func(v reflect.Value, field string) {
		if field != "Offset" && field != "Body" && field != "Capture" && v.Kind() != reflect.Struct {
			parts = append(parts, v)
		}
	})
	return parts
}

// copied returns a value that shares no memory with another one.
func copied(v reflect.Value) reflect.Value {
	if v.Kind() != reflect.Slice && v.Kind() != reflect.Struct {
		return reflect.ValueOf(v.Interface())
	}
	c := reflect.New(v.Type()).Elem()
	switch v.Kind() {
	case reflect.Slice:
		if v.Len() > 0 {
			c.Set(reflect.MakeSlice(v.Type(), v.Len(), v.Len()))
		}
		for i := range v.Len() {
			c.Index(i).Set(copied(v.Index(i)))
		}
	case reflect.Struct:
		for i := range v.NumField() {
			c.Field(i).Set(copied(v.Field(i)))
		}
	}
	return c
}

func clone[T any](x T) T { return copied(reflect.ValueOf(&x).Elem()).Interface().(T) }

// number gives all parts of modules different offsets, in no order.
func number(l []api.Module) {
	n := 0
	eachPart(reflect.ValueOf(l), "", func(v reflect.Value, field string) {
		if field == "Offset" {
			n++
			v.SetInt(int64(n * 7919 % 10007))
		}
	})
}

// pool are the values that parts of each type can have.
func pool() map[reflect.Type][]reflect.Value {
	values := map[reflect.Type][]reflect.Value{}
	add := func(v reflect.Value) { values[v.Type()] = append(values[v.Type()], v) }
	l := tourModules()
	eachPart(reflect.ValueOf(&l).Elem(), "", func(v reflect.Value, field string) {
		if field != "Offset" && v.Kind() != reflect.String {
			add(copied(v))
		}
	})
	for _, name := range names {
		add(reflect.ValueOf(name))
		e := expression(name)
		add(reflect.ValueOf(e))
		if slices.Contains(builtInNames[2:], name) || name == "List" {
			for _, arg := range []string{"Int", "Arena", "T", "Own"} {
				add(reflect.ValueOf(expression(name, expression(arg))))
			}
			add(reflect.ValueOf(expression(name, boxes(6, expression("Int")))))
			add(reflect.ValueOf(expression(name, boxes(7, expression("Int")))))
		}
		if name == "Both" {
			add(reflect.ValueOf(expression(name, e, expression("Int"))))
		}
	}
	for _, n := range []int{-2, -1, 1, api.MaxNumber, api.MaxNumber + 1} {
		add(reflect.ValueOf(n))
	}
	for n := range 6 {
		add(reflect.ValueOf(strings.Fields("A T B U V")[:n]))
		add(reflect.ValueOf(boxes(n+3, expression("Int"))))
		add(reflect.ValueOf(make([]api.VariantDef, n*4)))
		add(reflect.ValueOf(make([]api.TypeExpr, n*2)))
		add(reflect.ValueOf(make([]api.ArgDef, n*2)))
	}
	return values
}

// change changes one part of modules: it gets another value, or a list gets longer or shorter, or one of its elements stands at another place too.
func change(l *[]api.Module, values map[reflect.Type][]reflect.Value, r *rand.Rand) {
	parts := changeable(l)
	v := parts[r.IntN(len(parts))]
	others := values[v.Type()]
	if v.Kind() == reflect.Slice && r.IntN(4) > 0 {
		changeList(v, values[v.Type().Elem()], r)
	} else if len(others) > 0 {
		v.Set(copied(others[r.IntN(len(others))]))
	}
}

func changeList(v reflect.Value, others []reflect.Value, r *rand.Rand) {
	n := v.Len()
	switch {
	case n == 0 || r.IntN(4) == 0:
		if len(others) > 0 {
			v.Set(reflect.Append(copied(v), copied(others[r.IntN(len(others))])))
		}
	case r.IntN(3) == 0:
		k := r.IntN(n)
		v.Set(reflect.AppendSlice(copied(v.Slice(0, k)), copied(v.Slice(k+1, n))))
	case r.IntN(2) == 0:
		v.Set(reflect.Append(copied(v), copied(v.Index(r.IntN(n)))))
	default:
		reflect.Swapper(v.Interface())(r.IntN(n), r.IntN(n))
	}
}

// checkModules checks all promises for any modules, and returns their error.
func checkModules(t *testing.T, l []api.Module) complaint {
	t.Helper()
	before := clone(l)
	got := checkTables(t, l)
	checkRenaming(t, l)
	p, _, _ := Tables(l)
	for i := range l {
		checkBeginning(t, l[:i], p, got)
	}
	if got.err == api.OK {
		checkNames(t, l, p)
		checkRecursion(t, p)
		checkMemory(t, p)
	}
	if !reflect.DeepEqual(l, before) {
		t.Fatalf("%+v\nwas changed to\n%+v", before, l)
	}
	return got
}

// checkBeginning holds the tables of the first modules against those of all (P4.4).
func checkBeginning(t *testing.T, l []api.Module, all api.Program, got complaint) {
	t.Helper()
	p, err, where := Tables(l)
	if err != api.OK {
		if err != got.err || where != got.where {
			t.Fatalf("%+v: error %d at %v, but with more modules %d at %v", l, err, where, got.err, got.where)
		}
		return
	}
	if got.err != api.OK {
		return
	}
	all = clone(all)
	v, w := reflect.ValueOf(clone(p)), reflect.ValueOf(all)
	for i := range v.NumField() {
		if a, b := v.Field(i), w.Field(i); a.Kind() == reflect.Slice && a.Len() > 0 && !reflect.DeepEqual(a.Interface(), b.Slice(0, a.Len()).Interface()) {
			t.Fatalf("%+v: %s is %v, but begins with %v", l, v.Type().Field(i).Name, a, b)
		}
	}
}

// checkRenaming gives each module another name, where it is declared and used (P4.6).
func checkRenaming(t *testing.T, l []api.Module) {
	t.Helper()
	for _, m := range l {
		other := slices.Clone(l)
		for i := range other {
			if other[i].Name == m.Name {
				other[i].Name = "renamed"
			}
			other[i].Uses = slices.Clone(l[i].Uses)
			for k, name := range l[i].Uses {
				if name == m.Name {
					other[i].Uses[k] = "renamed"
				}
			}
		}
		p, err, where := Tables(l)
		q, err2, where2 := Tables(other)
		for i, name := range q.Modules {
			if name == "renamed" {
				q.Modules[i] = m.Name
			}
		}
		if err != err2 || where != where2 || !reflect.DeepEqual(p, q) {
			t.Fatalf("%+v\nif %s is renamed: error %d at %v, %+v\ninstead of %d at %v, %+v", l, m.Name, err2, where2, q, err, where, p)
		}
	}
}

// checkNames looks up all names in all modules (P4.2).
func checkNames(t *testing.T, l []api.Module, p api.Program) {
	t.Helper()
	for i := range l {
		for _, name := range names {
			d, tr, f := Data(p, i, name), Trait(p, l, i, name), Func(p, i, name)
			got := []int{-1, -1, -1}
			if d >= 0 && p.Datas[d].Name == name {
				got[dataKind] = p.Datas[d].Module
			}
			if tr >= 0 && p.Traits[tr] == name {
				got[traitKind] = p.Homes[tr]
			}
			if f >= 0 && p.Funcs[f].Name == name {
				got[funcKind] = p.Funcs[f].Module
			}
			for kind, module := range got {
				if want := home(l, i, kind, name); module != want {
					t.Fatalf("%+v: %s in %d as kind %d is of the module %d, want %d", l, name, i, kind, module, want)
				}
			}
		}
	}
}

// checkTypes looks up type expressions in all modules (P4.3).
func checkTypes(t *testing.T, l []api.Module, p api.Program) {
	t.Helper()
	list := []string{"T", "Own", "T", "Int"}
	for i := range l {
		c := &critic{l: l, i: i}
		for _, e := range expressions {
			c.found = nil
			c.typeExpr(list, e)
			want := complaint{}
			if len(c.found) > 0 {
				want = c.found[0]
			}
			x, err, at := Type(p, i, list, e)
			if err != want.err || at != want.where.Offset {
				t.Fatalf("%+v in %d: error %d at %d, want %d at %d", e, i, err, at, want.err, want.where.Offset)
			}
			if err != api.OK {
				if !reflect.DeepEqual(x, api.Type{}) {
					t.Fatalf("%+v has the error %d and the type %+v", e, err, x)
				}
				continue
			}
			if got := spelled(p, x); got != spell(l, i, list, e) {
				t.Fatalf("%+v in %d denotes %s", e, i, got)
			}
			if !isLocalType(p, x) {
				t.Fatalf("%+v in %d denotes the type %+v", e, i, x)
			}
		}
	}
}

// expressions are expressions of types that the tour has, and of others; each part has an offset of its own.
var expressions = func() []api.TypeExpr {
	var list []api.TypeExpr
	l := tourModules()
	eachPart(reflect.ValueOf(&l).Elem(), "", func(v reflect.Value, field string) {
		if e, ok := v.Interface().(api.TypeExpr); ok {
			list = append(list, clone(e))
		}
	})
	r := rand.New(rand.NewPCG(5, 6))
	for range 60 {
		list = append(list, anyExpression(r, 9))
	}
	eachPart(reflect.ValueOf(list), "", func(v reflect.Value, field string) {
		if field == "Offset" {
			v.SetInt(int64(r.Int32()))
		}
	})
	return list
}()

// anyExpression returns an expression of at most a depth, most parts of which have as many arguments as they have to.
func anyExpression(r *rand.Rand, depth int) api.TypeExpr {
	kinds := strings.Fields("Box/1 Box/1 Box/1 Chan/1 &/1 &!/1 List/1 List/1 Both/2 Both/2 Pair/0 Own/0 T/0 Int/0 Int/0 Arena/0 nope/0 Both/1 Int/1 Box/2")
	kind := kinds[r.IntN(len(kinds))]
	name, digit, _ := strings.Cut(kind, "/")
	e := expression(name)
	for range digit[0] - '0' {
		arg := expression("Int")
		if depth > 1 {
			arg = anyExpression(r, depth-1)
		}
		e.Args = append(e.Args, arg)
	}
	return e
}

// isStoredType says whether a type is a stored one, by the sentence of the chapter; isLocalType, whether it is a local one of at most the depth 8.
func isStoredType(p api.Program, x api.Type, depth int) bool {
	for _, a := range x.Args {
		if !isStoredType(p, a, depth-1) {
			return false
		}
	}
	switch x.Kind {
	case api.TyInt:
		return depth > 0 && x.Id == 0 && len(x.Args) == 0
	case api.TyParam:
		return depth > 0 && x.Id >= 0 && x.Id < 4 && len(x.Args) == 0
	case api.TyBox, api.TyChan:
		return depth > 0 && x.Id == 0 && len(x.Args) == 1
	case api.TyData:
		return depth > 0 && len(x.Args) == p.Datas[x.Id].Params
	}
	return false
}

func isLocalType(p api.Program, x api.Type) bool {
	arena := func(x api.Type) bool { return x.Kind == api.TyArena && x.Id == 0 && len(x.Args) == 0 }
	switch x.Kind {
	case api.TyArena:
		return arena(x)
	case api.TyShared:
		return x.Id == 0 && len(x.Args) == 1 && (arena(x.Args[0]) || isStoredType(p, x.Args[0], 7))
	case api.TyExcl:
		return x.Id == 0 && len(x.Args) == 1 && isStoredType(p, x.Args[0], 7)
	}
	return isStoredType(p, x, 8)
}

// checkRecursion adds to what data types contain what this contains, until nothing is added: none contains itself (P4.7). All types of a program are well-formed (P4.5).
func checkRecursion(t *testing.T, p api.Program) {
	t.Helper()
	inside := make([]map[int]bool, len(p.Datas))
	for i, d := range p.Datas {
		inside[i] = map[int]bool{}
		for _, v := range d.Variants {
			for _, x := range v.Fields {
				if !isStoredType(p, x, 8) {
					t.Fatalf("%+v has the field %+v", d, x)
				}
				within(x, inside[i])
			}
		}
	}
	for range p.Datas {
		for i := range inside {
			for k := range inside {
				if inside[i][k] {
					for j := range inside[k] {
						inside[i][j] = true
					}
				}
			}
		}
	}
	for i, d := range p.Datas {
		if inside[i][i] {
			t.Fatalf("%s contains itself: %+v", d.Name, p.Datas)
		}
	}
	for _, f := range p.Funcs {
		for _, x := range append(slices.Clone(f.Locals), f.Result) {
			if !isLocalType(p, x) {
				t.Fatalf("%+v has the type %+v", f, x)
			}
		}
	}
	for _, x := range p.Impls {
		if !isStoredType(p, x.Type, 8) {
			t.Fatalf("%+v is no implementation for a stored type", x)
		}
	}
}

func within(x api.Type, set map[int]bool) {
	if x.Kind != api.TyData {
		return
	}
	set[x.Id] = true
	for _, a := range x.Args {
		within(a, set)
	}
}

// checkMemory checks that no two lists of a program share memory.
func checkMemory(t *testing.T, p api.Program) {
	t.Helper()
	type part struct{ from, to uintptr }
	var parts []part
	eachPart(reflect.ValueOf(p), "", func(v reflect.Value, _ string) {
		if v.Kind() == reflect.Slice && v.Cap() > 0 {
			parts = append(parts, part{v.Pointer(), v.Pointer() + uintptr(v.Cap())*v.Type().Elem().Size()})
		}
	})
	slices.SortFunc(parts, func(a, b part) int { return int(a.from) - int(b.from) })
	for i := 1; i < len(parts); i++ {
		if parts[i].from < parts[i-1].to {
			t.Fatalf("lists of %+v share memory", p)
		}
	}
}

// P4.1 to P4.7 for modules that change at random; those without errors go on changing.
func TestRandomModules(t *testing.T) {
	t.Parallel()
	values := pool()
	r := rand.New(rand.NewPCG(1, 2))
	right, found := 0, map[string]bool{}
	for range 30 {
		l := tourModules()
		for range 200 {
			next := clone(l)
			for range 1 + r.IntN(3) {
				change(&next, values, r)
			}
			number(next)
			got := checkModules(t, next)
			found[got.rule] = true
			if got.err == api.OK {
				l, right = next, right+1
			}
		}
		p, _, _ := Tables(l)
		checkTypes(t, l, p)
	}
	if right < 400 || len(found) < 25 {
		t.Errorf("%d lists of modules were right; the others had errors of %d kinds", right, len(found))
	}
}

// rules are the sentences of the chapter that a change of one part of the tour can break.
const rules = "two modules,unknown module,used twice,clash 0,clash 1,clash 2,declared twice 0,declared twice 1,declared twice 2,two parameters,4 parameters,no variant,16 variants,drop,two variants,8 fields,unknown type,number of arguments,behind a shared reference,behind an exclusive reference,stored argument,depth,field,cycle,captures,bound of no parameter,bound by no trait,8 arguments,two arguments,result,unknown trait,type of an implementation,unknown function,parameters of the method,argument of the method,result of the method,bound of the method"

// P4.1: all changes of one part of the tour.
func TestEachChange(t *testing.T) {
	t.Parallel()
	values := pool()
	l := tourModules()
	number(l)
	found := map[string]int{}
	for _, v := range changeable(&l) {
		old := reflect.ValueOf(v.Interface())
		for _, other := range append(values[v.Type()], listsLike(old, values)...) {
			v.Set(other)
			found[checkTables(t, l).rule]++
		}
		v.Set(old)
	}
	if got := checkModules(t, l); got.err != api.OK {
		t.Error("a change was not taken back")
	}
	for _, rule := range strings.Split(rules, ",") {
		if found[rule] == 0 {
			t.Errorf("%q was never the first error", rule)
		}
	}
}

// listsLike returns the lists that have one element less than a list, or one more.
func listsLike(old reflect.Value, values map[reflect.Type][]reflect.Value) []reflect.Value {
	if old.Kind() != reflect.Slice {
		return nil
	}
	var lists []reflect.Value
	for k := range old.Len() {
		lists = append(lists, reflect.AppendSlice(copied(old.Slice(0, k)), copied(old.Slice(k+1, old.Len()))))
		lists = append(lists, reflect.Append(copied(old), copied(old.Index(k))))
	}
	for _, other := range values[old.Type().Elem()] {
		lists = append(lists, reflect.Append(copied(old), other))
	}
	return lists
}

// P0.1, P0.3: calls are independent of earlier ones.
func TestCallsAreIndependent(t *testing.T) {
	l := tourModules()
	p, _, _ := Tables(l)
	before := clone(p)
	q, _, _ := Tables(l)
	eachPart(reflect.ValueOf(&q).Elem(), "", func(v reflect.Value, _ string) {
		if v.Kind() == reflect.Int {
			v.SetInt(77)
		}
	})
	Type(p, 1, []string{"A", "B"}, expression("Both", expression("B"), expression("A")))
	again, _, _ := Tables(l)
	if !reflect.DeepEqual(clone(p), before) || !reflect.DeepEqual(clone(again), before) {
		t.Error("a program was changed by a later call")
	}
}

// FuzzTables changes the modules of texts, and checks all promises.
func FuzzTables(f *testing.F) {
	values := pool()
	f.Add(tour[0], tour[1], tour[2], uint64(0), 3)
	f.Add("module a;", "module b; use a;", "", uint64(1), 50)
	f.Fuzz(func(t *testing.T, first, second, third string, seed uint64, changes int) {
		var l []api.Module
		for _, text := range []string{first, second, third} {
			if m, err, _ := parser.Parse(text); err == api.OK {
				l = append(l, m)
			}
		}
		checkModules(t, l)
		if p, err, _ := Tables(l); err == api.OK {
			checkTypes(t, l, p)
		}
		r := rand.New(rand.NewPCG(seed, 1))
		for range min(changes, 40) {
			change(&l, values, r)
			number(l)
			if len(l) < 18 {
				checkModules(t, l)
			}
		}
	})
}
