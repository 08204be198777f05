package unify

import (
	"math"
	"slices"
	"testing"

	"leasehold/api"
)

// wide returns a type with many Args.
func wide(args ...api.Type) api.Type { return api.Type{Kind: api.TyData, Args: args} }

func repeated(n int, t api.Type) []api.Type {
	var l []api.Type
	for range n {
		l = append(l, t)
	}
	return l
}

func boxOf(t api.Type) api.Type { return api.Type{Kind: api.TyBox, Args: []api.Type{t}} }

// doubles checks the error of types that have to be pairwise equal, in both orders of the pairs, with n unsolved variables.
func doubles(t *testing.T, n int, want api.Errno, pairs [][2]api.Type) {
	t.Helper()
	for range 2 {
		var left, right []api.Type
		for _, pair := range pairs {
			left, right = append(left, pair[0]), append(right, pair[1])
		}
		if r, err := Unify(make([]api.Type, n), wide(left...), wide(right...)); err != want || len(r) > 0 {
			t.Errorf("error %d, want %d", err, want)
		}
		slices.Reverse(pairs)
	}
}

// P0.1: types that double with each variable are unified in few steps, whatever the result is.
func TestDoubling(t *testing.T) {
	const n = 200
	pairs := [][2]api.Type{{variable(0), variable(n)}}
	for i := range n - 1 {
		pairs = append(pairs, [2]api.Type{variable(i), wide(variable(i+1), variable(i+1))})
		pairs = append(pairs, [2]api.Type{variable(n + i), wide(variable(n+i+1), variable(n+i+1))})
	}
	for _, test := range []struct {
		left, right string
		want        api.Errno
	}{{"Box(Int)", "Box(Int)", api.ErrLimit}, {"Box(Int)", "Box(P0)", api.ErrType}, {"Box(v0)", "Box(Int)", api.ErrType}, {"v200", "Int", api.ErrType}} {
		ends := [][2]api.Type{{variable(n - 1), ty(test.left)}, {variable(2*n - 1), ty(test.right)}}
		doubles(t, 2*n, test.want, append(slices.Clone(pairs), ends...))
	}
}

// P0.1: the same, where on each level a variable on the one side meets something else on the other side, so that no two variables meet.
func TestDoublingApart(t *testing.T) {
	const n = 100
	pairs := [][2]api.Type{{boxOf(variable(0)), variable(n)}}
	for i := range n - 1 {
		pairs = append(pairs, [2]api.Type{variable(i), wide(boxOf(variable(i+1)), boxOf(variable(i+1)))})
		pairs = append(pairs, [2]api.Type{variable(n + i), boxOf(wide(variable(n+i+1), variable(n+i+1)))})
	}
	for _, test := range []struct {
		left, right string
		want        api.Errno
	}{{"Int", "Box(Int)", api.ErrLimit}, {"P0", "Box(Int)", api.ErrType}, {"v0", "Box(Int)", api.ErrType}} {
		ends := [][2]api.Type{{variable(n - 1), ty(test.left)}, {variable(2*n - 1), ty(test.right)}}
		doubles(t, 2*n, test.want, append(slices.Clone(pairs), ends...))
	}
}

// tower returns a substitution whose first variable has the depth n+1 when it is applied; each level has width times as many parts.
func tower(n, width int) []api.Type {
	var s []api.Type
	for i := range n {
		s = append(s, wide(repeated(width, variable(i+1))...))
	}
	return append(s, api.Type{})
}

// P0.1: substitutions that cannot be written down when they are applied, after narrow ones of the same depths.
func TestHuge(t *testing.T) {
	for _, width := range []int{1, 1000} {
		if got := Apply(tower(7, width), ty("Box(v7)")); text(got) != "Box(v7)" {
			t.Fatal(text(got))
		}
		for _, test := range []struct {
			a, b string
			want api.Errno
		}{{"v0", "Int", api.ErrType}, {"v0", "Box(v1)", api.ErrType}, {"v7", "v0", api.ErrType}, {"v7", "Box(Int)", api.ErrLimit}, {"Box(v0)", "Box(v0)", api.ErrLimit}, {"Box(v0)", "Int", api.ErrType}} {
			if r, err := Unify(tower(7, width), ty(test.a), ty(test.b)); err != test.want || len(r) > 0 {
				t.Fatalf("%s and %s: error %d, want %d", test.a, test.b, err, test.want)
			}
		}
		if got := Apply(tower(8, width), ty("Int")); !isZero(got) {
			t.Fatal(text(got))
		}
		if _, err := Unify(tower(8, width), ty("Int"), ty("Int")); err != api.ErrArg {
			t.Fatalf("error %d", err)
		}
	}
}

// checkElements checks that Unify has a result, that its first element is one type, and all others are another one.
func checkElements(t *testing.T, s []api.Type, a, b api.Type, first, others string) {
	t.Helper()
	r, err := Unify(s, a, b)
	if err != api.OK || len(r) != len(s) || text(r[0]) != first {
		t.Fatalf("error %d, %d elements", err, len(r))
	}
	for i, element := range r[1:] {
		if text(element) != others {
			t.Fatalf("variable %d is %s", i+1, text(element))
		}
	}
}

// P0.1: chains of variables, each of which stands for the next one, or for the one before.
func TestLongChains(t *testing.T) {
	const n = 100000
	up, down := make([]api.Type, n), make([]api.Type, n)
	for i := range n - 1 {
		up[i], down[i+1] = variable(i+1), variable(i)
	}
	for _, s := range [][]api.Type{up, down} {
		checkElements(t, s, variable(n/2), ty("Int"), "Int", "Int")
		checkElements(t, s, ty("Int"), ty("Int"), "_", "v0")
	}
	first, last := Apply(up, wide(repeated(n, variable(0))...)), Apply(down, wide(repeated(n, variable(n-1))...))
	if text(first.Args[n-1]) != text(variable(n-1)) || text(last.Args[n-1]) != "v0" {
		t.Error(text(first.Args[n-1]), text(last.Args[n-1]))
	}
	checkElements(t, make([]api.Type, n), wide(up[:n-1]...), wide(down[1:]...), "_", "v0")
	up[n-1] = variable(0)
	if _, err := Unify(up, ty("Int"), ty("Int")); err != api.ErrArg {
		t.Errorf("a circle: error %d", err)
	}
}

// P0.1: many variables, each of which is a box around the next one.
func TestManyBoxes(t *testing.T) {
	const n = 100000
	var variables, boxes []api.Type
	for i := range n - 1 {
		variables, boxes = append(variables, variable(i)), append(boxes, boxOf(variable(i+1)))
	}
	unsolved := make([]api.Type, n)
	if _, err := Unify(unsolved, wide(variables...), wide(boxes...)); err != api.ErrLimit {
		t.Errorf("error %d", err)
	}
	if got := Apply(append(slices.Clone(boxes), api.Type{}), ty("Int")); !isZero(got) {
		t.Error(text(got))
	}
	boxes[n-2] = ty("Box(v0)")
	if _, err := Unify(unsolved, wide(variables...), wide(boxes...)); err != api.ErrType {
		t.Errorf("a circle: error %d", err)
	}
	if _, err := Unify(append(boxes, api.Type{}), ty("Int"), ty("Int")); err != api.ErrArg {
		t.Errorf("a circle of elements: error %d", err)
	}
}

// P0.1: types with many levels.
func TestManyLevels(t *testing.T) {
	const levels = 1 << 16
	deep, pattern := ty("Int"), ty("P0")
	for range levels {
		deep, pattern = boxOf(deep), boxOf(pattern)
	}
	if !same(Subst(types("Int"), pattern), deep) || !same(Apply(types("Int"), deep), deep) {
		t.Error("not the same")
	}
	if l, ok := Match(pattern, deep, 1); !ok || text(l[0]) != "Int" {
		t.Error(ok)
	}
	if _, err := Unify(types("_"), deep, deep); err != api.ErrArg || Valid(small, 0, deep) {
		t.Errorf("error %d", err)
	}
	if _, err := Unify([]api.Type{deep}, ty("Int"), ty("Int")); err != api.ErrArg {
		t.Errorf("error %d", err)
	}
}

// P0.1: any arguments; with an error, and with false, there is nothing else.
func TestAnyArguments(t *testing.T) {
	m := seeded(4)
	ids := []int{0, 0, 1, 2, 3, 4, -1, 5, math.MinInt, math.MaxInt}
	var any func(levels int) api.Type
	any = func(levels int) api.Type {
		t := api.Type{Kind: m.one(-1, 0, 1, 2, 3, 4, 5, 5, 6, 7, 8, 9, 9, 10, math.MinInt, math.MaxInt), Id: m.one(ids...)}
		for range m.IntN(3) {
			if levels > 1 {
				t.Args = append(t.Args, any(levels-1))
			}
		}
		return t
	}
	for range 50000 {
		var s []api.Type
		for range m.IntN(4) {
			s = append(s, []api.Type{{}, any(2)}[m.IntN(2)])
		}
		a, b, params := any(4), any(3), m.one(-1, 0, 1, 2, 3, 4, 5, math.MinInt, math.MaxInt)
		checkUnify(t, s, a, b)
		checkApply(t, s, a)
		checkSubst(t, s, a)
		if l, ok := Match(a, b, params); len(l) > 0 && (!ok || len(l) != params) {
			t.Fatalf("Match of %s and %s, %d: %v, %v", text(a), text(b), params, texts(l), ok)
		}
		Valid(small, params, a)
	}
}
