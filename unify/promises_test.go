package unify

import (
	"math/rand/v2"
	"slices"
	"testing"

	"leasehold/api"
)

// P5.1, P5.3, P5.5: all substitutions of two and three variables, and all pairs of types, with few different types.
func TestAllUnifications(t *testing.T) {
	count := map[api.Errno]int{}
	for _, size := range []struct {
		n           int
		in, unified string
	}{
		{2, "_ Int v0 v1 Box(v0) Box(v1) D0(v1,v0) D0(Int,v1) v2", "Int P0 v0 v1 Box(v0) Box(v1) Box(Int) D0(v0,v1) D0(v1,v0) D0(v1,Box(v0)) D0(Int,v0) D0(v1) v0(Int)"},
		{3, "_ v0 v1 v2 Box(v1) Box(v2) Int", "v0 v1 v2 Box(v0) D0(v1,v2) D0(v2,Box(v0)) Box(Int)"},
		{3, "_ v0 v2 D0(v1,v2) " + boxed(4, "v1") + " " + boxed(4, "v2") + " " + boxed(7, "v0"), "v0 v1 Box(v2) " + boxed(3, "v0") + " " + boxed(4, "v0") + " " + boxed(4, "v2") + " D0(Int,v0)"},
		{2, "_ Int v1 Box(Int) " + boxed(3, "v1") + " " + boxed(4, "v0") + " " + boxed(4, "v1") + " " + boxed(7, "v1"), "v0 v1 P0 Box(v1) " + boxed(4, "v1") + " " + boxed(4, "v0") + " " + boxed(7, "v0") + " D0(v1," + boxed(3, "v0") + ") D0(" + boxed(3, "Int") + ",v1) D0(" + boxed(4, "v1") + ",v0)"},
		{2, "_ Int v1 " + boxed(3, "Int") + " " + boxed(4, "P0"), "v0 v1 " + boxed(3, "v0") + " " + boxed(4, "v0") + " " + boxed(4, "v1") + " " + boxed(5, "v1") + " " + boxed(7, "v0") + " D0(v0,v1) D0(" + boxed(4, "v1") + ",v0) D0(v0," + boxed(5, "v0") + ") D0(v1,v1)"},
	} {
		unified := types(size.unified)
		lists(size.n, types(size.in), func(s []api.Type) {
			lists(2, unified, func(l []api.Type) { count[checkUnify(t, s, l[0], l[1])]++ })
			for _, x := range unified {
				checkApply(t, s, x)
			}
		})
	}
	for _, err := range []api.Errno{api.OK, api.ErrArg, api.ErrType, api.ErrLimit} {
		if count[err] < 200 {
			t.Errorf("only %d calls with error %d, of %v", count[err], err, count)
		}
	}
}

// maker makes random types.
type maker struct{ *rand.Rand }

func seeded(n uint64) maker { return maker{rand.New(rand.NewPCG(n, 5))} }

func (m maker) one(of ...int) int { return of[m.IntN(len(of))] }

// term makes a type over n variables, of a depth of at most levels; rarely it is not over them.
func (m maker) term(n, levels int) api.Type {
	if m.IntN(300) == 0 {
		return ty([]string{"_", "K10_0", "K-1_0(Int)", "v-1", "v0(Int)", "v9", "Box(_)"}[m.IntN(7)])
	}
	if levels <= 1 || m.IntN(3) == 0 {
		if n > 0 && m.IntN(3) > 0 {
			return api.Type{Kind: api.TyVar, Id: m.IntN(n)}
		}
		return api.Type{Kind: m.one(api.TyInt, api.TyInt, api.TyParam, api.TyData, api.TyArena), Id: m.one(0, 0, 0, 1)}
	}
	t := api.Type{Kind: m.one(api.TyBox, api.TyBox, api.TyBox, api.TyData, api.TyData, api.TyChan, api.TyShared), Id: m.one(0, 0, 0, 0, 1)}
	arity := 1
	if t.Kind == api.TyData {
		arity = m.one(1, 2, 2, 3)
	}
	for range arity {
		t.Args = append(t.Args, m.term(n, levels-1))
	}
	return t
}

// tall puts boxes around a type; rarely so many that its depth is 9.
func (m maker) tall(t api.Type) api.Type {
	s := text(t)
	boxes := m.IntN(max(1, 9-nesting(s)))
	if m.IntN(100) == 0 {
		boxes = max(0, 9-nesting(s))
	}
	return ty(boxed(boxes, s))
}

// changed returns a type with other parts: terms instead of some, variables instead of others.
func (m maker) changed(n int, t api.Type) api.Type {
	switch m.IntN(12) {
	case 0:
		return m.term(n, 3)
	case 1:
		if n > 0 {
			return api.Type{Kind: api.TyVar, Id: m.IntN(n)}
		}
	}
	if t.Kind == api.TyVar && m.IntN(2) == 0 {
		return m.tall(m.term(n, m.one(1, 1, 2, 3)))
	}
	c := api.Type{Kind: t.Kind, Id: t.Id}
	for _, a := range t.Args {
		c.Args = append(c.Args, m.changed(n, a))
	}
	return c
}

// substitution makes a substitution of n variables. Those in an element come later in some order, but for rare cases.
func (m maker) substitution(n int) []api.Type {
	s, order := make([]api.Type, n), m.Perm(n)
	for at, v := range order {
		later := order[at+1:]
		if m.IntN(2) == 0 {
			continue
		}
		if m.IntN(40) == 0 {
			later = order
		}
		element := m.term(len(later), m.one(1, 1, 2, 3, 4, 8))
		if m.IntN(4) == 0 {
			element = m.tall(element)
		}
		s[v] = renamed(element, later)
	}
	return s
}

// renamed gives other numbers to the variables of a type.
func renamed(t api.Type, numbers []int) api.Type {
	c := api.Type{Kind: t.Kind, Id: t.Id}
	if t.Kind == api.TyVar && t.Id >= 0 && t.Id < len(numbers) {
		c.Id = numbers[t.Id]
	}
	for _, a := range t.Args {
		c.Args = append(c.Args, renamed(a, numbers))
	}
	return c
}

// call makes the arguments of a call of Unify.
func (m maker) call() ([]api.Type, api.Type, api.Type) {
	n := m.IntN(7)
	a := m.term(n, m.one(1, 2, 3, 4, 6, 8, 9))
	b := m.changed(n, a)
	switch m.IntN(6) {
	case 0:
		b = m.term(n, 4)
	case 1, 2:
		a = m.tall(a)
		b = m.changed(n, a)
	}
	return m.substitution(n), a, b
}

// P5.1, P5.3, P5.5: random calls.
func TestRandomUnifications(t *testing.T) {
	m := seeded(1)
	count := map[api.Errno]int{}
	for range 40000 {
		s, a, b := m.call()
		count[checkUnify(t, s, a, b)]++
		checkApply(t, s, a)
	}
	for _, err := range []api.Errno{api.OK, api.ErrArg, api.ErrType, api.ErrLimit} {
		if count[err] < 200 {
			t.Errorf("only %d calls with error %d, of %v", count[err], err, count)
		}
	}
}

// P5.4: every substitution of two variables without unsolved ones, with few different elements, that extends another one and makes two types equal, follows from the result of Unify.
func TestMostGeneral(t *testing.T) {
	ground := types("Int P0 Box(Int) Box(P0) Box(Box(Int)) D0(Int,Int) D0(Int,P0) D0(Box(Int),Int) " + boxed(3, "Int") + " " + boxed(4, "Int") + " " + boxed(5, "Int"))
	unified := types("v0 v1 Int Box(v0) Box(v1) Box(Box(v1)) D0(v0,v1) D0(v1,v0) D0(v1,v1) D0(Box(v1),Int) D0(Int,v0) " + boxed(5, "v0"))
	followed := 0
	lists(2, types("_ v0 v1 Int Box(v0) Box(v1) "+boxed(4, "v0")+" "+boxed(4, "v1")+" D0(Int,v1)"), func(s []api.Type) {
		if !wellFormed(texts(s)) {
			return
		}
		var extending [][]api.Type
		lists(2, ground, func(u []api.Type) {
			if extends(u, s) {
				extending = append(extending, u)
			}
		})
		lists(2, unified, func(l []api.Type) {
			r, err := Unify(s, l[0], l[1])
			for _, u := range extending {
				if text(Apply(u, l[0])) != text(Apply(u, l[1])) || err == api.ErrLimit {
					continue
				}
				if err != api.OK || !extends(u, r) {
					t.Fatalf("%v with %v: %v, error %d, but %v unifies them", texts(s), texts(l), texts(r), err, texts(u))
				}
				followed++
			}
		})
	})
	if followed < 2000 {
		t.Errorf("only %d substitutions followed", followed)
	}
}

// extends says whether a substitution without unsolved variables extends another one; it then follows from it, too.
func extends(u, s []api.Type) bool {
	for i, element := range s {
		if !isZero(element) && text(Apply(u, element)) != text(u[i]) {
			return false
		}
	}
	return true
}

// P5.4 and P5.1: the elements of a result have no solved variables, and of variables that stand for each other the least one is unsolved.
func TestCanonical(t *testing.T) {
	m := seeded(2)
	for range 20000 {
		s, a, b := m.call()
		r, _ := Unify(s, a, b)
		for i, element := range r {
			for _, v := range variableText.FindAllString(text(element), -1) {
				if !isZero(r[number(v[1:])]) {
					t.Fatalf("%v has the solved variable %s in an element", texts(r), v)
				}
			}
			if element.Kind == api.TyVar && element.Id >= i {
				t.Fatalf("%v: variable %d is not unsolved", texts(r), i)
			}
		}
	}
}

// P5.7: types of different Kinds, none of which is a variable; a variable, and a type in which it occurs.
func TestFailures(t *testing.T) {
	m := seeded(3)
	different, inside := 0, 0
	for range 20000 {
		s, a, b := m.call()
		if _, err := Unify(s, a, b); err == api.ErrArg {
			continue
		} else if a.Kind != b.Kind && a.Kind != api.TyVar && b.Kind != api.TyVar {
			different++
			if err != api.ErrType {
				t.Fatalf("%s and %s: error %d", text(a), text(b), err)
			}
		}
		applied := text(Apply(s, a))
		for v := range s {
			x := api.Type{Kind: api.TyVar, Id: v}
			if applied == text(x) || !slices.Contains(variableText.FindAllString(applied, -1), text(x)) {
				continue
			}
			inside++
			if _, err := Unify(s, x, a); err != api.ErrType {
				t.Fatalf("%v with %s and %s: error %d", texts(s), text(x), text(a), err)
			}
		}
	}
	if different < 500 || inside < 500 {
		t.Errorf("only %d pairs of different Kinds, and %d variables in a type", different, inside)
	}
}

// FuzzUnify makes calls from random numbers.
func FuzzUnify(f *testing.F) {
	for n := range uint64(20) {
		f.Add(n, n)
	}
	f.Fuzz(func(t *testing.T, a, b uint64) {
		m := maker{rand.New(rand.NewPCG(a, b))}
		s, x, y := m.call()
		checkUnify(t, s, x, y)
		checkApply(t, s, x)
		checkSubst(t, s, y)
	})
}
