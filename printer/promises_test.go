package printer

import (
	"math/rand/v2"
	"reflect"
	"slices"
	"strings"
	"testing"

	"leasehold/api"
	"leasehold/lexer"
	"leasehold/parser"
)

// keys are the key words, as the chapter of the parser has them.
var keys = strings.Fields("module use data trait impl for where fn let if else while match return panic drop print send spawn new box unbox in arena alloc chan recv move Int Arena Box Chan")

// unprintable are no printable names.
var unprintable = append([]string{"", "_", "_a", "1", "1a", "a b", "a ", " a", "a-b", "a.b", "a\n", "é", "aé", "a\x00", "[", "`", "{", "@", "a/", "a:", "a[", "a`", "&", "&!", "+", "a;", "a#", strings.Repeat("n", 25), strings.Repeat("n", 100)}, keys...)

// eachPart calls a function with each part of a value that can be set, however deep, and the name of its field.
func eachPart(v reflect.Value, field string, f func(v reflect.Value, field string)) {
	f(v, field)
	switch v.Kind() {
	case reflect.Slice:
		for i := range v.Len() {
			eachPart(v.Index(i), field, f)
		}
	case reflect.Struct:
		for i := range v.NumField() {
			eachPart(v.Field(i), v.Type().Field(i).Name, f)
		}
	}
}

func partsOf(m *api.Module) []reflect.Value {
	var list []reflect.Value
	eachPart(reflect.ValueOf(m).Elem(), "", func(v reflect.Value, field string) {
		if field != "Offset" {
			list = append(list, v)
		}
	})
	return list
}

// copied returns a value that shares no memory with another one.
func copied(v reflect.Value) reflect.Value {
	c := reflect.New(v.Type()).Elem()
	switch v.Kind() {
	case reflect.Slice:
		for i := range v.Len() {
			c = reflect.Append(c, copied(v.Index(i)))
		}
	case reflect.Struct:
		for i := range v.NumField() {
			c.Field(i).Set(copied(v.Field(i)))
		}
	default:
		c.Set(v)
	}
	return c
}

// clone copies a module; empty lists become nil.
func clone(m api.Module) api.Module { return copied(reflect.ValueOf(m)).Interface().(api.Module) }

// same says whether two values are equal apart from offsets.
func same(a, b reflect.Value) bool {
	switch a.Kind() {
	case reflect.Slice:
		for i := range min(a.Len(), b.Len()) {
			if !same(a.Index(i), b.Index(i)) {
				return false
			}
		}
		return a.Len() == b.Len()
	case reflect.Struct:
		for i := range a.NumField() {
			if a.Type().Field(i).Name != "Offset" && !same(a.Field(i), b.Field(i)) {
				return false
			}
		}
		return true
	}
	return a.Equal(b)
}

func equal(a, b api.Module) bool { return same(reflect.ValueOf(a), reflect.ValueOf(b)) }

// reading says by the parser alone whether a module is printable (P3.2, P3.3): its words are then a text from which it is read. It returns the tokens of the text, and whether the lexer can read as much.
func reading(m api.Module) (tokens []api.Token, printable, fits bool) {
	list := wordsOf(m)
	text := strings.Join(list, " ")
	if len(text) > api.MaxSource || len(list) > api.MaxTokens {
		return nil, false, false
	}
	tokens, _, _ = lexer.Lex(text)
	read, err, _ := parser.Parse(text)
	return tokens, err == api.OK && equal(read, m), true
}

// checkModule checks all promises for any module, and returns its text.
func checkModule(t *testing.T, m api.Module) string {
	t.Helper()
	text, printable := Print(m), Printable(m)
	tokens, want, fits := reading(m)
	if fits && want != printable || printable == (text == "") {
		t.Fatalf("%+v: Printable is %t, want %t; text %q", m, printable, want, text)
	}
	if !printable {
		return ""
	}
	if fits {
		if want := layOut(tokens); text != want {
			t.Fatalf("%s\nwant\n%s", text, want)
		}
	}
	checkInverse(t, m, text)
	checkParts(t, m, text)
	checkFunctions(t, m, text)
	checkLayout(t, text)
	return text
}

// P3.2, P3.3: a module is read from its text, and printed alike again.
func checkInverse(t *testing.T, m api.Module, text string) {
	t.Helper()
	if _, err, _ := lexer.Lex(text); err != api.OK {
		return // too many tokens or bytes
	}
	read, err, at := parser.Parse(text)
	if err != api.OK || !equal(read, m) || !Printable(read) || Print(read) != text {
		t.Fatalf("%s\nerror %d at %d, read as\n%+v, want\n%+v", text, err, at, read, m)
	}
}

// P3.5: the text of a module without its last function or implementation.
func checkParts(t *testing.T, m api.Module, text string) {
	t.Helper()
	switch {
	case len(m.Funcs) > 0:
		m.Funcs = m.Funcs[:len(m.Funcs)-1]
	case len(m.Impls) > 0:
		m.Impls = m.Impls[:len(m.Impls)-1]
	}
	if s := Print(m); s == "" || !strings.HasPrefix(text, s) {
		t.Fatalf("%s\nis no beginning of\n%s", s, text)
	}
}

// P3.6, C3: the texts of all functions stand one after the other at the end of the text.
func checkFunctions(t *testing.T, m api.Module, text string) {
	t.Helper()
	for _, f := range slices.Backward(m.Funcs) {
		s := Func(f)
		if alone := Print(api.Module{Name: "m", Funcs: []api.FuncDef{f}}); s == "" || !strings.HasSuffix(text, s) || alone != "module m;\n"+s {
			t.Fatalf("%s\nis not at the end of\n%s", s, text)
		}
		text = strings.TrimSuffix(text, s)
	}
}

// P3.8: no blanks at the end of a line, even numbers at its beginning, and as many closing braces as opening ones.
func checkLayout(t *testing.T, text string) {
	t.Helper()
	if !strings.HasSuffix(text, "\n") || strings.Count(text, "{") != strings.Count(text, "}") {
		t.Fatalf("the end or the braces of\n%s", text)
	}
	for line := range strings.Lines(text) {
		line = strings.TrimSuffix(line, "\n")
		start := strings.TrimLeft(line, " ")
		if line == "" || strings.TrimRight(line, " \t\r") != line || (len(line)-len(start))%2 != 0 || strings.ContainsAny(line, "\t\r") || strings.Contains(start, "  ") {
			t.Fatalf("line %q in\n%s", line, text)
		}
	}
}

// some are values that parts of each type can have: those of a module with everything, and others that are right nowhere or at limits.
func some() map[reflect.Type][]reflect.Value {
	pool := map[reflect.Type][]reflect.Value{}
	add := func(v reflect.Value) { pool[v.Type()] = append(pool[v.Type()], v) }
	m, _, _ := parser.Parse(tour)
	for _, v := range partsOf(&m) {
		add(copied(v))
		if !v.IsZero() {
			add(reflect.Zero(v.Type()))
		}
	}
	for _, s := range append([]string{"x", "T", strings.Repeat("n", 24), "*", "-", "<", "==", "/", "<="}, unprintable...) {
		add(reflect.ValueOf(s))
	}
	for _, n := range []int{-1 << 63, -api.MaxNumber - 1, -api.MaxNumber, -2, -1, 1, 2, 3, 13, 14, 20, 21, 22, api.MaxNumber, api.MaxNumber + 1, 1<<63 - 1} {
		add(reflect.ValueOf(n))
	}
	return pool
}

// change sets one part of a module to another value, or changes the length of a list.
func change(m *api.Module, pool map[reflect.Type][]reflect.Value, r *rand.Rand) {
	parts := partsOf(m)[1:]
	v := parts[r.IntN(len(parts))]
	if v.Kind() == reflect.Slice && r.IntN(2) == 0 {
		others := pool[v.Type().Elem()]
		v.Set(reflect.Append(v, copied(others[r.IntN(len(others))])))
		return
	}
	others := pool[v.Type()]
	v.Set(copied(others[r.IntN(len(others))]))
}

// P3.1 to P3.3, P3.5, P3.6, P3.8 for modules that change at random, of which those that are printable go on changing; P3.4 for all of them.
func TestRandomModules(t *testing.T) {
	t.Parallel()
	pool := some()
	r := rand.New(rand.NewPCG(1, 2))
	texts := map[string]api.Module{}
	printable := 0
	for range 20 {
		m := api.Module{Name: "m"}
		for range 500 {
			next := clone(m)
			for range 1 + r.IntN(2) {
				change(&next, pool, r)
			}
			text := checkModule(t, next)
			if text == "" || len(text) > 1500 {
				continue
			}
			if old, ok := texts[text]; ok && !equal(old, next) {
				t.Fatalf("%+v and %+v have the text\n%s", old, next, text)
			}
			m, texts[text] = next, next
			printable++
		}
	}
	if printable < 2000 || len(texts) < 1000 {
		t.Errorf("only %d printable modules with %d texts", printable, len(texts))
	}
}

// P3.1, P3.4: all changes of one part in modules of one item or statement.
func TestEachChange(t *testing.T) {
	t.Parallel()
	pool := some()
	for ty, list := range pool {
		pool[ty] = distinct(list)
	}
	texts := map[string]api.Module{}
	for _, m := range small(t) {
		parts := partsOf(&m)[1:]
		for _, v := range parts {
			old := copied(v)
			for _, other := range pool[v.Type()] {
				v.Set(copied(other))
				text := checkModule(t, m)
				if text == "" {
					continue
				}
				if other, ok := texts[text]; !ok {
					texts[text] = clone(m)
				} else if !equal(other, m) {
					t.Fatalf("%+v and %+v have the text\n%s", other, m, text)
				}
			}
			v.Set(old)
		}
	}
}

func distinct(list []reflect.Value) []reflect.Value {
	var kept []reflect.Value
	for _, v := range list {
		if !slices.ContainsFunc(kept, func(k reflect.Value) bool { return reflect.DeepEqual(k.Interface(), v.Interface()) }) {
			kept = append(kept, v)
		}
	}
	return kept
}

// small returns modules with one item each, or one statement, out of a module with everything.
func small(t *testing.T) []api.Module {
	m, err, _ := parser.Parse(tour)
	if err != api.OK {
		t.Fatal("the tour is no module")
	}
	list := []api.Module{{Name: "m", Uses: []string{"n"}}}
	for _, d := range m.Datas {
		list = append(list, api.Module{Name: "m", Datas: []api.DataDef{d}})
	}
	for _, d := range m.Traits {
		list = append(list, api.Module{Name: "m", Traits: []api.TraitDef{d}})
	}
	for _, d := range m.Impls {
		list = append(list, api.Module{Name: "m", Impls: []api.ImplDef{d}})
	}
	for _, f := range m.Funcs {
		for _, s := range f.Body {
			list = append(list, inBlock(s))
		}
		f.Body = nil
		list = append(list, api.Module{Name: "m", Funcs: []api.FuncDef{f}})
	}
	for i := range list {
		list[i] = clone(list[i])
	}
	return list
}

// P3.7: each word that is no printable name, in place of each name.
func TestUnprintableNames(t *testing.T) {
	m, _, _ := parser.Parse(tour)
	names := 0
	eachPart(reflect.ValueOf(&m).Elem(), "", func(v reflect.Value, field string) {
		if v.Kind() != reflect.String || field == "Op" || v.String() == "" || slices.Contains(unprintable, v.String()) {
			return
		}
		names++
		old := v.String()
		for _, s := range unprintable {
			v.SetString(s)
			if s == "Int" || s == "Arena" || s == "Box" || s == "Chan" || s == "&" || s == "&!" {
				checkModule(t, m) // as the name of a type it can be right
			} else if Printable(m) || Print(m) != "" {
				t.Errorf("%q in place of the name %q of a %s", s, old, field)
			}
		}
		for _, s := range []string{"a", "Z", "zZaA_09", strings.Repeat("m", 24), "modul", "modules", "int", "BOX", "Arenas", "a__"} {
			v.SetString(s)
			if !Printable(m) || Print(m) == "" {
				t.Errorf("%q is no name of a %s", s, field)
			}
		}
		v.SetString(old)
	})
	if names < 150 {
		t.Errorf("only %d names", names)
	}
}

// Rules: the functions do not change their arguments.
func TestArguments(t *testing.T) {
	m, _, _ := parser.Parse(tour)
	before := clone(m)
	Printable(m)
	Print(m)
	for _, f := range m.Funcs {
		Func(f)
	}
	if !reflect.DeepEqual(m, before) {
		t.Errorf("%+v\nwas changed to\n%+v", before, m)
	}
}

// C1 to C3: offsets do not matter, not even those of an expression that a statement does not have.
func TestOffsets(t *testing.T) {
	m, _, _ := parser.Parse(tour)
	n := -7
	eachPart(reflect.ValueOf(&m).Elem(), "", func(v reflect.Value, field string) {
		if field == "Offset" {
			v.SetInt(int64(n))
			n += 3
		}
	})
	if Print(m) != tour || !strings.HasSuffix(tour, Func(m.Funcs[len(m.Funcs)-1])) {
		t.Error("offsets are written")
	}
}

// FuzzPrint changes the module of a text, if it has one, and checks all promises.
func FuzzPrint(f *testing.F) {
	pool := some()
	f.Add(tour, uint64(0), 3)
	f.Add("module m;", uint64(1), 50)
	f.Fuzz(func(t *testing.T, text string, seed uint64, changes int) {
		m, err, _ := parser.Parse(text)
		if err == api.OK {
			checkModule(t, m)
		}
		r := rand.New(rand.NewPCG(seed, 1))
		for range min(changes, 60) {
			change(&m, pool, r)
			checkModule(t, m)
		}
	})
}
