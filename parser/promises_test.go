package parser

import (
	"math/rand/v2"
	"reflect"
	"slices"
	"strings"
	"testing"

	"leasehold/api"
	"leasehold/lexer"
)

// tour has every alternative of the grammar.
const tour = `module tour; use a; use b;
data pair<A, B> { pair(A, &!Box<B>), none, n(Int, pair<A, Chan<B>>) } drop 5;
data e { x } drop panic; data g<T> { y(T) };
trait Show;
impl Show for Int = f; impl<T> Show for pair<T, Arena> where T: Show, T: Eq = show;
fn f() -> Arena { }
fn f<T, U>(a: T, b: &Arena) -> Box<T> where T: Show, U: Eq {
  let n: Int = 5; let n = -5; n = m; let a = b + c; let a = b - c; let a = b * c; let a = b < c; let a = b == c;
  let a = new d.v; let a = new d.v(b, c); let a = box b; let a = unbox b; let a = &b; let a = &!b; let a = &*b; let a = &!*b; let a = &in b; let a = &!in b;
  let a = b.2; let a = *b; let a = g(); let a = g(b, c); let a = Show::b; let a = arena; let a = alloc b c; let a = chan Int; let a = recv b;
  *a = b; if a { } if a { panic; } else { drop b; } while a { print b; }
  match a { v { } w(x, y) { return x; } }
  send a b; spawn f(); spawn f(a, b);
  fn h[](x: Int) -> Int { return x; }
  fn h[move a: Int, &b: Int, &!c: Box<Int>](d: Int, e: Int) -> &Int { fn i[&z: Int]() -> Int { } }
}
fn z() -> Chan<T> where T: U { }`

// eachPlace calls a function for each struct in a value that has an Offset.
func eachPlace(v reflect.Value, f func(reflect.Value)) {
	switch v.Kind() {
	case reflect.Slice:
		for i := range v.Len() {
			eachPlace(v.Index(i), f)
		}
	case reflect.Struct:
		if o := v.FieldByName("Offset"); o.IsValid() && !isAbsent(v) {
			f(v)
		}
		for i := range v.NumField() {
			eachPlace(v.Field(i), f)
		}
	}
}

// isAbsent says whether a struct is an expression that its statement does not have.
func isAbsent(v reflect.Value) bool {
	e, ok := v.Interface().(api.Expr)
	return ok && e.Kind == 0
}

// movePlaces changes all offsets of a module.
func movePlaces(m *api.Module, f func(int) int) {
	eachPlace(reflect.ValueOf(m).Elem(), func(v reflect.Value) {
		o := v.FieldByName("Offset")
		o.SetInt(int64(f(int(o.Int()))))
	})
}

// P2.2: the tokens of a text with other gaps.
func checkGaps(t *testing.T, text string, r *rand.Rand) {
	t.Helper()
	tokens, _, _ := lexer.Lex(text)
	w := &writer{r: r}
	moved := map[int]int{}
	for _, x := range tokens {
		moved[x.Offset] = w.put(x.Text)
	}
	w.WriteString(w.gap("", ""))
	again := w.String()
	if after, err, _ := lexer.Lex(again); err != api.OK || len(after) != len(tokens) {
		return // too many bytes
	}
	moved[len(text)] = len(again)
	m, err, at := Parse(text)
	movePlaces(&m, func(i int) int { return moved[i] })
	if err != api.OK {
		at = moved[at]
	}
	if m2, err2, at2 := Parse(again); err2 != err || at2 != at || show(m2) != show(m) {
		t.Errorf("%q:\n%s, error %d at %d, want\n%s, error %d at %d", again, show(m2), err2, at2, show(m), err, at)
	}
}

// P2.3: the text before a token with ErrSyntax has no ErrSyntax.
func checkFirstError(t *testing.T, text string) {
	t.Helper()
	if _, err, at := Parse(text); err == api.ErrSyntax {
		if _, before, where := Parse(text[:at]); before != api.OK && (before != api.ErrEnd || where != at) {
			t.Errorf("%q: ErrSyntax at %d, but error %d at %d before it", text, at, before, where)
		}
	}
}

// P2.5: the tokens before any token of a module are a module, or have ErrEnd.
func checkBeginnings(t *testing.T, text string) {
	t.Helper()
	tokens, _, _ := lexer.Lex(text)
	for _, x := range tokens {
		if _, err, at := Parse(text[:x.Offset]); err != api.OK && (err != api.ErrEnd || at != x.Offset) {
			t.Errorf("%q: error %d at %d", text[:x.Offset], err, at)
		}
	}
}

// P2.6: a key word for the name, or a further ; at the end.
func checkKeyWords(t *testing.T, text string) {
	t.Helper()
	tokens, _, _ := lexer.Lex(text)
	x := tokens[1]
	for _, w := range keys {
		refuses(t, text[:x.Offset]+w+text[x.Offset+len(x.Text):], api.ErrSyntax, x.Offset)
	}
	refuses(t, text+"\n;", api.ErrSyntax, len(text)+1)
}

// beginning returns the name with which a thing begins; none if it begins with another word.
func beginning(x any) string {
	switch x := x.(type) {
	case api.VariantDef:
		return x.Name
	case api.BoundDef:
		return x.Param
	case api.ArmDef:
		return x.Variant
	case api.TypeExpr:
		return x.Name
	case api.Stmt:
		if x.Kind == api.StSet {
			return x.Name
		}
	case api.Expr:
		switch x.Kind {
		case api.ExName, api.ExBinary, api.ExField:
			return x.Names[0]
		case api.ExCall, api.ExMethod:
			return x.Name
		}
	}
	return ""
}

// P2.7: offsets are those of tokens, and of the right ones.
func checkPlaces(t *testing.T, text string, m api.Module) {
	t.Helper()
	tokens, _, _ := lexer.Lex(text)
	words := map[int]string{}
	for _, x := range tokens {
		words[x.Offset] = x.Text
	}
	check := func(x any, offset int, name string) {
		if word := words[offset]; word == "" || name != "" && word != name {
			t.Errorf("%q: %s at the token %q", text, show(x), word)
		}
	}
	eachPlace(reflect.ValueOf(m), func(v reflect.Value) {
		check(v.Interface(), int(v.FieldByName("Offset").Int()), beginning(v.Interface()))
	})
	for _, f := range m.Funcs {
		for _, a := range f.Args {
			check(a, a.Offset, a.Name)
		}
	}
}

// P2.4: the items of a module are appended to those of another one.
func checkItems(t *testing.T, a, b string) {
	t.Helper()
	m, _, _ := Parse(a)
	n, _, _ := Parse(b)
	tokens, _, _ := lexer.Lex(b)
	from := len(b)
	if header := 3 + 3*len(n.Uses); header < len(tokens) {
		from = tokens[header].Offset
	}
	text := a + "\n" + b[from:]
	if _, err, _ := lexer.Lex(text); err != api.OK {
		return // too many tokens or bytes
	}
	movePlaces(&n, func(i int) int { return i - from + len(a) + 1 })
	m.Datas = append(m.Datas, n.Datas...)
	m.Traits = append(m.Traits, n.Traits...)
	m.Impls = append(m.Impls, n.Impls...)
	m.Funcs = append(m.Funcs, n.Funcs...)
	reads(t, text, m)
}

// P0.1, P2.1, P2.2, P2.3: what holds for all texts.
func checkText(t *testing.T, text string, r *rand.Rand) {
	t.Helper()
	want, offset := verdict(text)
	m, err, at := Parse(text)
	if err != want || at != offset || err != api.OK && show(m) != show(api.Module{}) {
		t.Fatalf("%q: %s, error %d at %d, want %d at %d", text, show(m), err, at, want, offset)
	}
	if _, err, _ := lexer.Lex(text); err == api.OK {
		checkGaps(t, text, r)
		checkFirstError(t, text)
	}
}

// checkModule checks what holds for all texts of modules.
func checkModule(t *testing.T, text string, r *rand.Rand) {
	t.Helper()
	checkText(t, text, r)
	m, err, _ := Parse(text)
	if err != api.OK {
		t.Fatalf("%q: error %d", text, err)
	}
	checkBeginnings(t, text)
	checkKeyWords(t, text)
	checkPlaces(t, text, m)
	checkMemory(t, m)
}

// Rules: no two lists of a result share memory.
func checkMemory(t *testing.T, m api.Module) {
	t.Helper()
	type part struct{ from, to uintptr }
	var parts []part
	var collect func(v reflect.Value)
	collect = func(v reflect.Value) {
		switch v.Kind() {
		case reflect.Slice:
			if v.Cap() > 0 {
				parts = append(parts, part{v.Pointer(), v.Pointer() + uintptr(v.Cap())*v.Type().Elem().Size()})
			}
			for i := range v.Len() {
				collect(v.Index(i))
			}
		case reflect.Struct:
			for i := range v.NumField() {
				collect(v.Field(i))
			}
		}
	}
	collect(reflect.ValueOf(m))
	slices.SortFunc(parts, func(a, b part) int { return int(a.from) - int(b.from) })
	for i := 1; i < len(parts); i++ {
		if parts[i].from < parts[i-1].to {
			t.Errorf("lists of %s share memory", show(m))
		}
	}
}

// P2.1 to P2.7 for random modules: what is read is what the writer of the text says.
func TestRandomModules(t *testing.T) {
	r := rand.New(rand.NewPCG(1, 2))
	exprs, stmts := map[int]bool{}, map[int]bool{}
	before := "module m;"
	for range 600 {
		w := &writer{r: r}
		want := w.module(6)
		text := w.String()
		reads(t, text, want)
		checkModule(t, text, r)
		checkItems(t, before, text)
		before = text
		eachPlace(reflect.ValueOf(want), func(v reflect.Value) {
			switch x := v.Interface().(type) {
			case api.Expr:
				exprs[x.Kind] = true
			case api.Stmt:
				stmts[x.Kind] = true
			}
		})
	}
	if len(exprs) != api.ExRecv || len(stmts) != api.StFunc {
		t.Errorf("%d kinds of expressions, %d of statements", len(exprs), len(stmts))
	}
}

// P2.1, P2.3, P2.5, P2.6: each word after each beginning of the tour, which has every alternative of the grammar.
func TestEachNextWord(t *testing.T) {
	checkModule(t, tour, rand.New(rand.NewPCG(3, 4)))
	tokens, _, _ := lexer.Lex(tour)
	c := newChart(chapterGrammar)
	words := allWords()
	for i := 0; ; i++ {
		end := len(tour)
		if i < len(tokens) {
			end = tokens[i].Offset
		}
		for _, w := range words {
			checkNextWord(t, c, tour[:end]+" ", w)
		}
		if i == len(tokens) {
			return
		}
		c.columns = append(c.columns, c.after(terminal(tokens[i])))
	}
}

// checkNextWord checks a text that ends with a word after the tokens of a chart, and returns the column after it.
func checkNextWord(t *testing.T, c *chart, before, word string) *column {
	t.Helper()
	tokens, _, _ := lexer.Lex(word)
	k := c.after(terminal(tokens[0]))
	text := before + word
	want, offset := api.ErrSyntax, len(before)
	switch {
	case k != nil && c.isModule(k):
		want, offset = api.OK, 0
	case k != nil:
		want, offset = api.ErrEnd, len(text)
	}
	if _, err, at := Parse(text); err != want || at != offset {
		t.Fatalf("%q: error %d at %d, want %d at %d", text, err, at, want, offset)
	}
	return k
}

// P2.1: all texts of a few words that follow a beginning, as long as a module can go on with them.
func TestShortTexts(t *testing.T) {
	words := allWords()
	for _, c := range []struct {
		text string
		more int
	}{
		{"", 7}, {"module m;", 5}, {"module m; use u;", 4}, {"module m; data", 5}, {"module m; data d { v }", 4}, {"module m; data d { v(T", 4}, {"module m; impl", 6}, {"module m; impl T for", 4}, {"module m; impl T for T where", 5}, {"module m; fn", 5}, {"module m; fn f()", 4}, {"module m; fn f() -> T where T: U", 4},
		{inBlock, 3}, {inBlock + "let", 4}, {inLet, 3}, {inLet + "x", 5}, {inLet + "new", 6}, {inLet + "&", 5}, {inLet + "chan", 4}, {inLet + "alloc", 4}, {inBlock + "*", 6}, {inBlock + "if x", 4}, {inBlock + "if x { }", 3}, {inBlock + "match x", 4}, {inBlock + "match x { v { }", 4}, {inBlock + "spawn", 5}, {inBlock + "send", 4}, {inBlock + "fn g", 4}, {inBlock + "fn g[", 4}, {inBlock + "fn g[]", 5},
	} {
		chart := newChart(chapterGrammar)
		tokens, _, _ := lexer.Lex(c.text)
		for _, x := range tokens {
			chart.columns = append(chart.columns, chart.after(terminal(x)))
		}
		goOn(t, chart, c.text+" ", words, c.more)
	}
}

func goOn(t *testing.T, c *chart, text string, words []string, more int) {
	if more == 0 {
		return
	}
	for _, w := range words {
		if k := checkNextWord(t, c, text, w); k != nil {
			c.columns = append(c.columns, k)
			goOn(t, c, text+w+" ", words, more-1)
			c.columns = c.columns[:len(c.columns)-1]
		}
	}
}

// P0.1, P2.1 to P2.3: modules in which some tokens are missing, are others, or stand elsewhere.
func TestDamagedModules(t *testing.T) {
	r := rand.New(rand.NewPCG(5, 6))
	words := allWords()
	for range 2500 {
		w := &writer{r: r}
		w.module(3)
		tokens, _, _ := lexer.Lex(w.String())
		l := make([]string, len(tokens))
		for i, x := range tokens {
			l[i] = x.Text
		}
		for range 1 + r.IntN(3) {
			i, j := r.IntN(len(l)), r.IntN(len(l))
			switch r.IntN(4) {
			case 0:
				l = slices.Delete(l, i, i+1)
			case 1:
				l[i] = words[r.IntN(len(words))]
			case 2:
				l = slices.Insert(l, i, words[r.IntN(len(words))])
			default:
				l[i], l[j] = l[j], l[i]
			}
			if len(l) == 0 {
				break
			}
		}
		checkText(t, strings.Join(l, " "), r)
	}
}

// P0.1: texts of any tokens and any bytes.
func TestAnyTexts(t *testing.T) {
	r := rand.New(rand.NewPCG(7, 8))
	words := append(allWords(), "!", "\x00", "é", "_", "1000000001", strings.Repeat("n", 25), "# c\n")
	for range 3000 {
		var b strings.Builder
		if r.IntN(2) == 0 {
			b.WriteString(inModule)
		}
		for range r.IntN(8) {
			b.WriteString(words[r.IntN(len(words))] + " ")
		}
		checkText(t, b.String(), r)
	}
	for range 1000 {
		bytes := make([]byte, r.IntN(12))
		for i := range bytes {
			bytes[i] = byte(r.IntN(256))
		}
		checkText(t, string(bytes), r)
	}
}

// P2.4 for modules without items, without uses, and with gaps at their ends.
func TestAppendedItems(t *testing.T) {
	l := []string{"module m;", "module n; use a;", "module m; trait T; # end", "module k; use a; use b; data d { v } drop 7; fn f() -> T { }", "module m; impl T for Int = f;\n", tour}
	for _, a := range l {
		for _, b := range l {
			checkItems(t, a, b)
		}
	}
}

// P2.6: in place of each name, a key word that begins nothing there is an error.
func TestKeyWordsAreNoNames(t *testing.T) {
	for _, w := range keys {
		refuses(t, "module "+w+";", api.ErrSyntax, 7)
		refuses(t, "module m; use "+w+";", api.ErrSyntax, 14)
		refuses(t, "module m; trait "+w+";", api.ErrSyntax, 16)
		refuses(t, "module m; data "+w+" { v };", api.ErrSyntax, 15)
		refuses(t, "module m; data d<"+w+"> { v };", api.ErrSyntax, 17)
		refuses(t, "module m; data d { "+w+" };", api.ErrSyntax, 19)
		refuses(t, "module m; fn "+w+"() -> Int { }", api.ErrSyntax, 13)
		refuses(t, "module m; fn f("+w+": Int) -> Int { }", api.ErrSyntax, 15)
		refuses(t, inBlock+"let "+w+" = x; }", api.ErrSyntax, len(inBlock)+4)
		refuses(t, inBlock+"print "+w+"; }", api.ErrSyntax, len(inBlock)+6)
		refuses(t, inLet+"y + "+w+"; }", api.ErrSyntax, len(inLet)+4)
		reads(t, "module "+w+"_;", api.Module{Name: w + "_"})
		reads(t, "module a"+w+";", api.Module{Name: "a" + w})
	}
	for _, w := range []string{"Module", "FN", "int", "INT", "box_", "drops", "self", "true", "m"} {
		reads(t, "module "+w+";", api.Module{Name: w})
	}
}

// Rules: a result depends on the text alone, and does not change with what a caller does to an earlier result.
func TestCallsAreIndependent(t *testing.T) {
	first, _, _ := Parse(tour)
	want := show(first)
	first.Uses[0], first.Funcs[1].Args[0].Name, first.Funcs[1].Body[0].Name = "?", "?", "?"
	Parse("module if;")
	if second, err, _ := Parse(tour); err != api.OK || show(second) != want {
		t.Error(show(second), err)
	}
}

func FuzzParse(f *testing.F) {
	for _, s := range []string{"", "module m;", tour, inLet + "x; }", inLet + ";", "module m; $"} {
		f.Add(s)
	}
	f.Fuzz(func(t *testing.T, text string) {
		if len(text) > 2000 {
			return
		}
		r := rand.New(rand.NewPCG(9, uint64(len(text))))
		checkText(t, text, r)
		if _, err, _ := Parse(text); err == api.OK {
			checkModule(t, text, r)
			checkItems(t, text, tour)
			checkItems(t, text, text)
		}
	})
}
