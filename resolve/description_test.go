package resolve

import (
	"reflect"
	"slices"
	"strconv"
	"strings"
	"testing"

	"leasehold/api"
)

// This file describes the tables a second time, by names alone: it lists all errors of modules in their order, going on after each one, and writes types as texts.

// complaint is an error of some modules; rule says which sentence of the chapter it breaks.
type complaint struct {
	rule  string
	err   api.Errno
	where api.Where
}

// critic lists the errors of the module with an index.
type critic struct {
	l     []api.Module
	i     int
	found []complaint
}

// complaints lists the errors of modules. All but the first one need not be right.
func complaints(l []api.Module) []complaint {
	c := &critic{l: l}
	for i := range l {
		c.i = i
		c.use()
		c.declare()
		for _, d := range l[i].Datas {
			c.data(d)
		}
		for _, d := range l[i].Datas {
			c.add(contents(l[i], d)[d.Name], "cycle", api.ErrCycle, d.Offset)
		}
		for _, f := range l[i].Funcs {
			c.function(f)
		}
		for _, x := range l[i].Impls {
			c.implementation(x)
		}
	}
	return c.found
}

func (c *critic) add(wrong bool, rule string, err api.Errno, offset int) {
	if wrong {
		c.found = append(c.found, complaint{rule, err, api.Where{Module: c.i, Offset: offset}})
	}
}

var builtInNames = strings.Fields("Int Arena Box Chan & &!")

// kinds of declarations that have names
const (
	dataKind = iota
	traitKind
	funcKind
)

// namesOf lists the names of one kind that a module declares.
func namesOf(m api.Module, kind int) []string {
	var names []string
	for _, d := range m.Datas {
		if kind == dataKind {
			names = append(names, d.Name)
		}
	}
	for _, t := range m.Traits {
		if kind == traitKind {
			names = append(names, t.Name)
		}
	}
	for _, f := range m.Funcs {
		if kind == funcKind {
			names = append(names, f.Name)
		}
	}
	return names
}

// used lists the modules before a module that it uses.
func used(l []api.Module, i int) []int {
	var list []int
	for j := range i {
		if slices.Contains(l[i].Uses, l[j].Name) {
			list = append(list, j)
		}
	}
	return list
}

// home returns the module in which a name that is visible in a module is declared, or -1.
func home(l []api.Module, i, kind int, name string) int {
	for _, j := range append(used(l, i), i) {
		if slices.Contains(namesOf(l[j], kind), name) {
			return j
		}
	}
	return -1
}

func (c *critic) use() {
	m := c.l[c.i]
	before := map[string]bool{}
	for _, other := range c.l[:c.i] {
		before[other.Name] = true
	}
	c.add(c.i > 15, "16 modules", api.ErrLimit, 0)
	c.add(before[m.Name], "two modules", api.ErrTwice, 0)
	for k, name := range m.Uses {
		c.add(!before[name], "unknown module", api.ErrName, 0)
		c.add(slices.Contains(m.Uses[:k], name), "used twice", api.ErrTwice, 0)
	}
	for kind := dataKind; kind <= funcKind; kind++ {
		seen := map[string]int{}
		for _, j := range used(c.l, c.i) {
			for _, name := range namesOf(c.l[j], kind) {
				k, ok := seen[name]
				c.add(ok && k != j, "clash "+strconv.Itoa(kind), api.ErrTwice, 0)
				seen[name] = j
			}
		}
	}
}

func (c *critic) declare() {
	offsets := [][]int{nil, nil, nil}
	for _, d := range c.l[c.i].Datas {
		offsets[dataKind] = append(offsets[dataKind], d.Offset)
	}
	for _, t := range c.l[c.i].Traits {
		offsets[traitKind] = append(offsets[traitKind], t.Offset)
	}
	for _, f := range c.l[c.i].Funcs {
		offsets[funcKind] = append(offsets[funcKind], f.Offset)
	}
	for kind := dataKind; kind <= funcKind; kind++ {
		var seen []string
		for _, j := range used(c.l, c.i) {
			seen = append(seen, namesOf(c.l[j], kind)...)
		}
		before := 0
		for _, m := range c.l[:c.i] {
			before += len(namesOf(m, kind))
		}
		for k, name := range namesOf(c.l[c.i], kind) {
			c.add(before+k >= 200, "200 of a kind", api.ErrLimit, offsets[kind][k])
			c.add(slices.Contains(seen, name), "declared twice "+strconv.Itoa(kind), api.ErrTwice, offsets[kind][k])
			seen = append(seen, name)
		}
	}
}

func distinctNames(names []string) bool {
	set := map[string]bool{}
	for _, name := range names {
		set[name] = true
	}
	return len(set) == len(names)
}

func (c *critic) params(params []string, offset int) {
	c.add(len(params) > 4, "4 parameters", api.ErrLimit, offset)
	c.add(!distinctNames(params), "two parameters", api.ErrTwice, offset)
}

func (c *critic) data(d api.DataDef) {
	c.params(d.Params, d.Offset)
	c.add(len(d.Variants) > 16, "16 variants", api.ErrLimit, d.Offset)
	c.add(len(d.Variants) < 1, "no variant", api.ErrLimit, d.Offset)
	c.add(d.Drop < -1 || d.Drop > 1000000000, "drop", api.ErrArg, d.Offset)
	var names []string
	for _, v := range d.Variants {
		c.add(slices.Contains(names, v.Name), "two variants", api.ErrTwice, v.Offset)
		names = append(names, v.Name)
		c.add(len(v.Fields) > 8, "8 fields", api.ErrLimit, v.Offset)
		for _, e := range v.Fields {
			c.typeExpr(d.Params, e)
			c.add(isLocal(e), "field", api.ErrType, e.Offset)
		}
	}
}

// isLocal says whether an expression denotes a type that is no stored one.
func isLocal(e api.TypeExpr) bool { return e.Name == "Arena" || e.Name == "&" || e.Name == "&!" }

// arity returns how many arguments an expression has to have, or -1 if its name means nothing.
func arity(l []api.Module, i int, params []string, e api.TypeExpr) int {
	switch {
	case e.Name == "Int" || e.Name == "Arena":
		return 0
	case slices.Contains(builtInNames, e.Name):
		return 1
	case slices.Contains(params, e.Name):
		return 0
	}
	j := home(l, i, dataKind, e.Name)
	if j < 0 {
		return -1
	}
	k := slices.IndexFunc(l[j].Datas, func(d api.DataDef) bool { return d.Name == e.Name })
	return len(l[j].Datas[k].Params)
}

func (c *critic) typeExpr(params []string, e api.TypeExpr) {
	n := arity(c.l, c.i, params, e)
	c.add(n < 0, "unknown type", api.ErrName, e.Offset)
	c.add(n != len(e.Args), "number of arguments", api.ErrType, e.Offset)
	for _, a := range e.Args {
		c.typeExpr(params, a)
		switch {
		case e.Name == "&":
			c.add(isLocal(a) && a.Name != "Arena", "behind a shared reference", api.ErrType, a.Offset)
		case e.Name == "&!":
			c.add(isLocal(a), "behind an exclusive reference", api.ErrType, a.Offset)
		default:
			c.add(isLocal(a), "stored argument", api.ErrType, a.Offset)
		}
	}
	c.add(levels(e) > 8, "depth", api.ErrLimit, e.Offset)
}

func levels(e api.TypeExpr) int {
	n := 0
	for _, a := range e.Args {
		n = max(n, levels(a))
	}
	return n + 1
}

// contents returns the names of all that a data type of a module contains: what is in its fields is added until nothing new comes.
func contents(m api.Module, d api.DataDef) map[string]bool {
	inside := map[string]bool{}
	addFields(inside, d)
	for size := -1; size != len(inside); {
		size = len(inside)
		for _, other := range m.Datas {
			if inside[other.Name] {
				addFields(inside, other)
			}
		}
	}
	return inside
}

func addFields(inside map[string]bool, d api.DataDef) {
	var add func(e api.TypeExpr)
	add = func(e api.TypeExpr) {
		if e.Name == "Box" || e.Name == "Chan" || slices.Contains(d.Params, e.Name) {
			return
		}
		if e.Name != "Int" {
			inside[e.Name] = true
		}
		for _, a := range e.Args {
			add(a)
		}
	}
	for _, v := range d.Variants {
		for _, e := range v.Fields {
			add(e)
		}
	}
}

func (c *critic) bounds(params []string, l []api.BoundDef) {
	for _, b := range l {
		c.add(!slices.Contains(params, b.Param), "bound of no parameter", api.ErrName, b.Offset)
		c.add(home(c.l, c.i, traitKind, b.Trait) < 0, "bound by no trait", api.ErrName, b.Offset)
	}
}

func (c *critic) function(f api.FuncDef) {
	c.add(len(f.Captures) > 0, "captures", api.ErrArg, f.Offset)
	c.params(f.Params, f.Offset)
	c.add(len(f.Args) > 8, "8 arguments", api.ErrLimit, f.Offset)
	c.bounds(f.Params, f.Bounds)
	var names []string
	for _, a := range f.Args {
		c.add(slices.Contains(names, a.Name), "two arguments", api.ErrTwice, a.Offset)
		names = append(names, a.Name)
		c.typeExpr(f.Params, a.Type)
	}
	c.typeExpr(f.Params, f.Result)
	c.add(f.Result.Name == "Arena", "result", api.ErrType, f.Result.Offset)
}

func (c *critic) implementation(x api.ImplDef) {
	c.add(home(c.l, c.i, traitKind, x.Trait) < 0, "unknown trait", api.ErrName, x.Offset)
	c.params(x.Params, x.Offset)
	c.bounds(x.Params, x.Bounds)
	c.typeExpr(x.Params, x.Type)
	c.add(isLocal(x.Type), "type of an implementation", api.ErrType, x.Type.Offset)
	j := home(c.l, c.i, funcKind, x.Func)
	c.add(j < 0, "unknown function", api.ErrName, x.Offset)
	if j < 0 {
		return
	}
	f := c.l[j].Funcs[slices.Index(namesOf(c.l[j], funcKind), x.Func)]
	c.add(len(f.Params) != len(x.Params), "parameters of the method", api.ErrType, x.Offset)
	want := "&(" + spell(c.l, c.i, x.Params, x.Type) + ")"
	c.add(len(f.Args) != 1 || spell(c.l, j, f.Params, f.Args[0].Type) != want, "argument of the method", api.ErrType, x.Offset)
	c.add(f.Result.Name != "Int", "result of the method", api.ErrType, x.Offset)
	have := boundTexts(c.l, c.i, x.Params, x.Bounds)
	for _, b := range boundTexts(c.l, j, f.Params, f.Bounds) {
		c.add(!slices.Contains(have, b), "bound of the method", api.ErrType, x.Offset)
	}
}

// spell writes the type that an expression denotes in a module: parameters by their numbers, data types with the numbers of their modules.
func spell(l []api.Module, i int, params []string, e api.TypeExpr) string {
	text := strconv.Itoa(home(l, i, dataKind, e.Name)) + "." + e.Name
	if slices.Contains(builtInNames, e.Name) {
		text = e.Name
	} else if k := slices.Index(params, e.Name); k >= 0 {
		text = "#" + strconv.Itoa(k)
	}
	var args []string
	for _, a := range e.Args {
		args = append(args, spell(l, i, params, a))
	}
	return text + bracketed(args)
}

func bracketed(args []string) string {
	if len(args) == 0 {
		return ""
	}
	return "(" + strings.Join(args, ", ") + ")"
}

// spelled writes a type of a program in the same way.
func spelled(p api.Program, t api.Type) string {
	text := [...]string{"", "Int", "", "Box", "Chan", "", "Arena", "&", "&!"}[t.Kind]
	id := 0
	switch t.Kind {
	case api.TyData:
		text, id = strconv.Itoa(p.Datas[t.Id].Module)+"."+p.Datas[t.Id].Name, t.Id
	case api.TyParam:
		text, id = "#"+strconv.Itoa(t.Id), t.Id
	}
	if t.Id != id {
		text += "!" // an Id that has no meaning
	}
	var args []string
	for _, a := range t.Args {
		args = append(args, spelled(p, a))
	}
	return text + bracketed(args)
}

func boundTexts(l []api.Module, i int, params []string, bounds []api.BoundDef) []string {
	var texts []string
	for _, b := range bounds {
		texts = append(texts, strconv.Itoa(slices.Index(params, b.Param))+": "+strconv.Itoa(home(l, i, traitKind, b.Trait))+"."+b.Trait)
	}
	return texts
}

func boundsSpelled(p api.Program, bounds []api.Bound) []string {
	var texts []string
	for _, b := range bounds {
		texts = append(texts, strconv.Itoa(b.Param)+": "+strconv.Itoa(p.Homes[b.Trait])+"."+p.Traits[b.Trait])
	}
	return texts
}

// wanted lists what the tables of modules without errors have to contain, a line for each declaration and each part of it.
func wanted(l []api.Module) []string {
	var lines []string
	add := func(words ...any) { lines = append(lines, line(words...)) }
	for i, m := range l {
		add("module", i, m.Name, m.Uses)
		for _, d := range m.Datas {
			add("data", i, d.Name, len(d.Params), d.Drop)
			for _, v := range d.Variants {
				add("variant", v.Name)
				for _, e := range v.Fields {
					add("field", spell(l, i, d.Params, e))
				}
			}
		}
	}
	for i, m := range l {
		for _, t := range m.Traits {
			add("trait", i, t.Name)
		}
	}
	for i, m := range l {
		for _, x := range m.Impls {
			f := home(l, i, funcKind, x.Func)
			add("impl", i, x.Trait, home(l, i, traitKind, x.Trait), len(x.Params), boundTexts(l, i, x.Params, x.Bounds), spell(l, i, x.Params, x.Type), x.Func, f)
		}
	}
	main := "none"
	for i, m := range l {
		for _, f := range m.Funcs {
			add("fn", i, f.Name, len(f.Params), boundTexts(l, i, f.Params, f.Bounds), len(f.Args), spell(l, i, f.Params, f.Result))
			for _, a := range f.Args {
				add("local", spell(l, i, f.Params, a.Type))
			}
			if i == len(l)-1 && f.Name == "main" && len(f.Params)+len(f.Args) == 0 && f.Result.Name == "Int" {
				main = "main of " + strconv.Itoa(i)
			}
		}
	}
	add(main)
	return lines
}

// contained lists what a program contains, in the same way.
func contained(t *testing.T, p api.Program) []string {
	var lines []string
	add := func(words ...any) { lines = append(lines, line(words...)) }
	if len(p.Uses) != len(p.Modules) || len(p.Homes) != len(p.Traits) {
		t.Fatalf("lists of different lengths: %+v", p)
	}
	data := 0
	for i, name := range p.Modules {
		var uses []string
		for _, j := range p.Uses[i] {
			uses = append(uses, p.Modules[j])
		}
		add("module", i, name, uses)
		for ; data < len(p.Datas) && p.Datas[data].Module == i; data++ {
			add("data", i, p.Datas[data].Name, p.Datas[data].Params, p.Datas[data].Drop)
			for _, v := range p.Datas[data].Variants {
				add("variant", v.Name)
				for _, f := range v.Fields {
					add("field", spelled(p, f))
				}
			}
		}
	}
	for i, name := range p.Traits {
		add("trait", p.Homes[i], name)
	}
	for _, x := range p.Impls {
		add("impl", x.Module, p.Traits[x.Trait], p.Homes[x.Trait], x.Params, boundsSpelled(p, x.Bounds), spelled(p, x.Type), p.Funcs[x.Func].Name, p.Funcs[x.Func].Module)
	}
	for _, f := range p.Funcs {
		add("fn", f.Module, f.Name, f.Params, boundsSpelled(p, f.Bounds), f.Arity, spelled(p, f.Result))
		for _, x := range f.Locals {
			add("local", spelled(p, x))
		}
		if len(f.Blocks)+len(f.Ties) > 0 {
			add("a function with a body")
		}
	}
	switch {
	case data != len(p.Datas):
		add("data types out of order")
	case p.Main == -1:
		add("none")
	default:
		add(p.Funcs[p.Main].Name + " of " + strconv.Itoa(p.Funcs[p.Main].Module))
	}
	return lines
}

func line(words ...any) string {
	var texts []string
	for _, word := range words {
		switch w := word.(type) {
		case string:
			texts = append(texts, strconv.Quote(w))
		case int:
			texts = append(texts, strconv.Itoa(w))
		case []string:
			texts = append(texts, strconv.Quote(strings.Join(w, ",")))
		}
	}
	return strings.Join(texts, " ")
}

// first returns the error of some modules, or the zero complaint.
func first(l []api.Module) complaint {
	if found := complaints(l); len(found) > 0 {
		return found[0]
	}
	return complaint{}
}

// checkTables holds the tables of modules against the description, and returns the error that they have.
func checkTables(t *testing.T, l []api.Module) complaint {
	t.Helper()
	p, err, where := Tables(l)
	want := first(l)
	if err != want.err || where != want.where {
		t.Fatalf("%+v:\nerror %d at %v, want %d at %v (%s)", l, err, where, want.err, want.where, want.rule)
	}
	if err != api.OK {
		if !reflect.DeepEqual(p, api.Program{}) {
			t.Fatalf("%+v:\na program with the error %d: %+v", l, err, p)
		}
		return want
	}
	if got, lines := contained(t, p), wanted(l); !slices.Equal(got, lines) {
		t.Fatalf("%+v:\n%s\nwant\n%s", l, strings.Join(got, "\n"), strings.Join(lines, "\n"))
	}
	return want
}
