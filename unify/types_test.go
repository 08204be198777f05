package unify

import (
	"slices"
	"strings"
	"testing"

	"leasehold/api"
)

// checkSubst holds Subst against the description.
func checkSubst(t *testing.T, args []api.Type, x api.Type) {
	t.Helper()
	got := Subst(args, x)
	if want := describeSubst(texts(args), text(x)); text(got) != want {
		t.Fatalf("%s with %v: %s, want %s", text(x), texts(args), text(got), want)
	}
	isNew(t, []api.Type{got}, append(slices.Clone(args), x)...)
}

// stored makes a well-formed stored type of the program small, with a number of parameters.
func (m maker) stored(params, levels int) api.Type {
	kind := m.one(api.TyInt, api.TyParam, api.TyData, api.TyBox, api.TyChan)
	t, arity := api.Type{Kind: kind}, 0
	switch kind {
	case api.TyParam:
		if params == 0 {
			return m.stored(params, levels)
		}
		t.Id = m.IntN(params)
	case api.TyData:
		t.Id = m.IntN(len(small.Datas))
		arity = small.Datas[t.Id].Params
	case api.TyBox, api.TyChan:
		arity = 1
	}
	if levels == 1 && arity > 0 {
		return m.stored(params, levels)
	}
	for range arity {
		t.Args = append(t.Args, m.stored(params, levels-1))
	}
	return t
}

// wellFormedType makes a well-formed type.
func (m maker) wellFormedType(params, levels int) api.Type {
	kind := m.one(api.TyInt, api.TyInt, api.TyArena, api.TyShared, api.TyExcl)
	if kind == api.TyInt || levels == 1 {
		return m.stored(params, levels)
	}
	t := api.Type{Kind: kind}
	if kind == api.TyShared && m.IntN(4) == 0 {
		t.Args = types("Arena")
	} else if kind != api.TyArena {
		t.Args = []api.Type{m.stored(params, levels-1)}
	}
	return t
}

// P5.2: replacing each parameter by itself, replacing twice, and replacing in well-formed types.
func TestParameters(t *testing.T) {
	m := seeded(5)
	themselves := types("P0 P1 P2 P3")
	deep := 0
	for range 20000 {
		params, others := m.IntN(5), m.IntN(5)
		x := m.wellFormedType(params, 1+m.IntN(8))
		if m.IntN(3) == 0 {
			s := text(m.stored(params, 4))
			x = ty(boxed(m.IntN(9-nesting(s)), s))
		}
		if !Valid(small, params, x) {
			t.Fatalf("%s is not well-formed for %d parameters", text(x), params)
		}
		if got := Subst(themselves[:params], x); text(got) != text(x) {
			t.Fatalf("%s became %s", text(x), text(got))
		}
		var first, second, both []api.Type
		for range others {
			second = append(second, m.wellFormedType(4, 3))
		}
		for range params {
			first = append(first, m.stored(others, 1+m.IntN(7)))
			both = append(both, Subst(second, first[len(first)-1]))
		}
		checkSubst(t, first, x)
		once := Subst(first, x)
		if depth := nesting(text(once)); Valid(small, others, once) != (depth <= 8) {
			t.Fatalf("%s with %v: %s", text(x), texts(first), text(once))
		} else if depth > 8 {
			deep++
		}
		if got, want := text(Subst(second, once)), text(Subst(both, x)); got != want {
			t.Fatalf("%s, %v, %v: %s, want %s", text(x), texts(first), texts(second), got, want)
		}
	}
	if deep < 500 {
		t.Errorf("only %d types that are too deep", deep)
	}
}

// wellFormedTexts are the well-formed types of the program small of a depth of at most 2, made by the chapter's list.
func wellFormedTexts(params int) map[string]bool {
	stored := strings.Fields("P0 P1 P2 P3")[:params]
	stored = append(stored, "Int", "D0")
	all := map[string]bool{"Arena": true, "Shared(Arena)": true}
	for _, a := range stored {
		for _, s := range []string{a, "D1(" + a + ")", "Box(" + a + ")", "Chan(" + a + ")", "Shared(" + a + ")", "Excl(" + a + ")"} {
			all[s] = true
		}
		for _, b := range stored {
			all["D2("+a+","+b+")"] = true
		}
	}
	return all
}

// P5.1: E5, for all types of a depth of at most 2 with at most two Args.
func TestAllSmallTypes(t *testing.T) {
	var heads []api.Type
	for kind := -1; kind <= 11; kind++ {
		for id := -1; id <= 3; id++ {
			heads = append(heads, api.Type{Kind: kind, Id: id})
		}
	}
	for params := -1; params <= 5; params++ {
		var want map[string]bool
		if params >= 0 && params <= 4 {
			want = wellFormedTexts(params)
		}
		good := 0
		for n := range 3 {
			lists(n, heads, func(args []api.Type) {
				for _, head := range heads {
					head.Args = args
					ok := Valid(small, params, head)
					if ok {
						good++
					}
					if ok != want[text(head)] {
						t.Fatalf("%s for %d parameters: %v", text(head), params, ok)
					}
				}
			})
		}
		if good != len(want) {
			t.Errorf("%d well-formed types for %d parameters, want %d", good, params, len(want))
		}
	}
}

// P5.1: E5, for well-formed types in which one part was changed.
func TestChangedTypes(t *testing.T) {
	m := seeded(6)
	others := types("Arena Arena1 Int1 P4 P-1 D-1 D4 D0(Int) D1 D2(Int) Box Box(Int,Int) Box1(Int) Shared(Int) Shared(Arena) Excl(Int) v0 _ K10_0 K-1_0")
	changed := 0
	for range 20000 {
		x := m.stored(4, 5)
		before, parts := text(x), argsIn(&x)
		if len(parts) == 0 {
			continue
		}
		*parts[m.IntN(len(parts))] = others[m.IntN(len(others))]
		if Valid(small, 4, x) || Valid(small, 4, api.Type{Kind: api.TyShared, Args: []api.Type{boxOf(x)}}) {
			t.Fatalf("%s became %s, which is well-formed", before, text(x))
		}
		changed++
	}
	if changed < 5000 {
		t.Errorf("only %d types were changed", changed)
	}
}

// argsIn returns the Args in a type, however deep.
func argsIn(t *api.Type) []*api.Type {
	var l []*api.Type
	for i := range t.Args {
		l = append(append(l, &t.Args[i]), argsIn(&t.Args[i])...)
	}
	return l
}

// partsOf returns the parts of a type.
func partsOf(t api.Type) []api.Type {
	parts := []api.Type{t}
	for _, a := range t.Args {
		parts = append(parts, partsOf(a)...)
	}
	return parts
}

// parametersOf returns the numbers of the parameters of a pattern.
func parametersOf(pattern api.Type) []int {
	if pattern.Kind == api.TyParam {
		return []int{pattern.Id}
	}
	var l []int
	for _, a := range pattern.Args {
		l = append(l, parametersOf(a)...)
	}
	return l
}

// describeMatch tries all parts of a type for two parameters or less.
func describeMatch(pattern, t api.Type, params int) ([]string, bool) {
	numbers := parametersOf(pattern)
	if slices.ContainsFunc(numbers, func(i int) bool { return i < 0 || i >= params }) {
		return nil, false
	}
	var found []string
	ok := false
	lists(params, partsOf(t), func(l []api.Type) {
		for i := range l {
			if !slices.Contains(numbers, i) {
				l[i] = api.Type{}
			}
		}
		if !ok && describeSubst(texts(l), text(pattern)) == text(t) {
			found, ok = texts(l), true
		}
	})
	return found, ok
}

// P5.1, P5.6: Match finds what trying all parts finds, and the pattern becomes the type.
func TestMatching(t *testing.T) {
	m := seeded(7)
	pool := types("P0 P1 P0(Int) P1(P0) Int Box(P0) Box(P1) Box(Int) D1(P0,P1) D1(P1,P0) D1(P0,P0) D1(Box(P0),P1) D1(P0,Box(P0)) v0 _ P2 P-1 D1(v0,_) D2(P0,P1)")
	count := map[bool]int{}
	check := func(pattern, x api.Type) {
		params := m.IntN(3)
		want, wantOk := describeMatch(pattern, x, params)
		got, ok := Match(pattern, x, params)
		if ok != wantOk || !slices.Equal(texts(got), want) {
			t.Fatalf("%s and %s, %d: %v, %v, want %v, %v", text(pattern), text(x), params, texts(got), ok, want, wantOk)
		}
		if ok && text(Subst(got, pattern)) != text(x) {
			t.Fatalf("%s becomes %s", text(pattern), text(Subst(got, pattern)))
		}
		isNew(t, got, pattern, x)
		count[ok]++
	}
	for range 100 {
		lists(2, pool, func(l []api.Type) { check(l[0], l[1]) })
	}
	for range 20000 {
		pattern := pool[m.IntN(len(pool))]
		args := []api.Type{pool[m.IntN(len(pool))], pool[m.IntN(len(pool))]}
		check(pattern, Subst(args, pattern))
		check(Subst(args, pattern), Subst(args, Subst(args, pattern)))
	}
	if count[true] < 5000 || count[false] < 5000 {
		t.Error(count)
	}
}

// P5.6: if parameters are replaced, Match finds by what.
func TestMatchFindsReplacements(t *testing.T) {
	m := seeded(8)
	for range 20000 {
		params := m.IntN(5)
		pattern := m.wellFormedType(params, 5)
		var args []api.Type
		for range params {
			args = append(args, m.term(2, 4))
		}
		got, ok := Match(pattern, Subst(args, pattern), params)
		for i := range args {
			if !slices.Contains(parametersOf(pattern), i) {
				args[i] = api.Type{}
			}
		}
		if !ok || !slices.Equal(texts(got), texts(args)) {
			t.Fatalf("%s with %v: %v, %v", text(pattern), texts(args), texts(got), ok)
		}
	}
}
