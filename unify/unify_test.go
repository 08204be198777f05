package unify

import (
	"math"
	"slices"
	"strings"
	"testing"

	"leasehold/api"
)

// P5.1: the chapter's examples.
func TestExamples(t *testing.T) {
	for _, example := range []struct {
		a, b, want string
		err        api.Errno
	}{
		{"Box(v0)", "Box(Int)", "Int _", api.OK},
		{"v0", "v1", "_ v0", api.OK},
		{"Box(v0)", "Chan(v0)", "", api.ErrType},
		{"v0", "Box(v0)", "", api.ErrType},
	} {
		r, err := Unify(make([]api.Type, 2), ty(example.a), ty(example.b))
		if err != example.err || !slices.Equal(texts(r), strings.Fields(example.want)) {
			t.Errorf("%s and %s: %v, error %d", example.a, example.b, texts(r), err)
		}
	}
	types, ok := Match(ty("Box(P0)"), ty("Box(Box(Int))"), 1)
	if !ok || !slices.Equal(texts(types), []string{"Box(Int)"}) {
		t.Errorf("Match: %v, %v", texts(types), ok)
	}
}

// P5.1: E1, by hand.
func TestSubst(t *testing.T) {
	for _, test := range []struct{ args, t, want string }{
		{"Int Box(Int)", "D0(P1,P0)", "D0(Box(Int),Int)"},
		{"Int", "Box(D2(Chan(P0),P0))", "Box(D2(Chan(Int),Int))"},
		{"Int", "P-1", "P-1"},
		{"Int", "P1", "P1"},
		{"Int", "P2(P0)", "P2(Int)"},
		{"Int", "P-1(Box(P0),P1)", "P-1(Box(Int),P1)"},
		{"", "P0", "P0"},
		{"Int Chan(Int)", "P1(Int)", "Chan(Int)"},
		{"Box(Int)", "Box(P0(P0,P1))", "Box(Box(Int))"},
		{"P1 P0", "D0(P0,P1)", "D0(P1,P0)"},
		{"Box(P0) P0(P1)", "D0(P0,P1,P2)", "D0(Box(P0),P0(P1),P2)"},
		{"_ K12_3(_)", "D0(P0,P1)", "D0(_,K12_3(_))"},
		{"v0", "Shared(P0)", "Shared(v0)"},
		{"Int", "v0(P0)", "v0(Int)"},
		{"Int", "Int7(P0,Arena(P0))", "Int7(Int,Arena(Int))"},
		{"Int", "K-1_4(P0,K0_9(P0))", "K-1_4(Int,K0_9(Int))"},
		{"Int", "_", "_"},
		{"Int Int Int Int Int Int", "D0(P3,P5,P6)", "D0(Int,Int,P6)"},
		{boxed(8, "Int"), boxed(8, "P0"), boxed(16, "Int")},
	} {
		args, x := types(test.args), ty(test.t)
		got := Subst(args, x)
		if text(got) != test.want {
			t.Errorf("%s with %s: %s, want %s", test.t, test.args, text(got), test.want)
		}
		if text(x) != test.t || !slices.Equal(texts(args), strings.Fields(test.args)) {
			t.Errorf("%s with %s: arguments changed", test.t, test.args)
		}
	}
	twice := types("Box(Box(Int))")
	isNew(t, []api.Type{Subst(twice, ty("D0(P0,P0)")), Subst(twice, ty("P0"))}, twice...)
	if got := Subst(types("Int"), api.Type{Kind: api.TyParam, Id: math.MinInt}); got.Id != math.MinInt {
		t.Error(got)
	}
}

// illFormed are substitutions that are not well-formed, each in one way.
var illFormed = []string{
	"v0",                             // a variable reaches itself,
	"Box(v0)",                        // in its element,
	"_ D0(Int,v1)",                   //
	"v1 v0",                          // through another one,
	"v1 v2 v0",                       //
	"Box(v1) Chan(v0)",               //
	"_ v2 D0(v0,v3) v1",              //
	"K0_1",                           // a Kind that is none,
	"K10_0",                          //
	"K-1_0",                          //
	"K0_0(Int)",                      // which looks like the zero type,
	"Box(_)",                         // in a part,
	"Int(K10_0)",                     //
	"_ D0(Int,K-1_2)",                //
	"v1",                             // no variable of the substitution,
	"v-1",                            //
	"Box(v1)",                        //
	"_ D0(v0,v2)",                    //
	"_ v0(Int)",                      // a variable with Args,
	"_ Box(v0(Int))",                 //
	"_ Box(v0(v0))",                  //
	boxed(8, "Int"),                  // depth,
	"_ " + boxed(8, "v0"),            //
	"D0(Int," + boxed(7, "P0") + ")", //
	boxed(7, "v1") + " Box(Int)",     // when it is applied,
	boxed(7, "v1") + " v2 Box(Int)",  //
	boxed(4, "v1") + " D0(v2,v3) Int " + boxed(3, "Int"),
	"Box(v1) Box(v2) Box(v3) Box(v4) Box(v5) Box(v6) Box(v7) Box(Int)",
}

// fine are substitutions that are well-formed.
var fine = []string{
	"_", "_ _", "Int", "v1 _", "_ v0", "v2 _ v1", "Box(v1) Chan(v2) Int",
	"D0(v1,v1) D0(v2,v2) _",
	"Int7(Int) Arena3(v2) P9(P-1) Shared(Shared(Arena(Excl)))",
	boxed(7, "Int"), "_ " + boxed(7, "v0"), boxed(7, "v1") + " Int", boxed(7, "v1") + " v2 _",
	boxed(4, "v1") + " D0(v2,v3) Int " + boxed(2, "Int"),
	"Box(v1) Box(v2) Box(v3) Box(v4) Box(v5) Box(v6) Box(v7) _",
}

// P5.1: which substitutions are well-formed, for E2 and E3.
func TestWellFormed(t *testing.T) {
	number := ty("Int")
	for _, s := range illFormed {
		if got := Apply(types(s), number); !isZero(got) {
			t.Errorf("Apply of %s: %s", s, text(got))
		}
		if r, err := Unify(types(s), number, number); err != api.ErrArg || len(r) > 0 {
			t.Errorf("Unify with %s: %v, error %d", s, texts(r), err)
		}
		if r, err := Unify(types(s), number, ty("P0")); err != api.ErrArg || len(r) > 0 {
			t.Errorf("Unify with %s, and different types: %v, error %d", s, texts(r), err)
		}
	}
	for _, s := range fine {
		if got := Apply(types(s), number); text(got) != "Int" {
			t.Errorf("Apply of %s: %s", s, text(got))
		}
		if r, err := Unify(types(s), number, number); err != api.OK || len(r) != len(types(s)) {
			t.Errorf("Unify with %s: %v, error %d", s, texts(r), err)
		}
	}
}

// notOver are types that are not over a substitution of two variables.
var notOver = strings.Fields("_ K0_1 K0_0(Int) K10_0 K-1_0 v2 v-1 v0(Int) Box(_) Box(v2) Int(v-1) D0(Int,v1(v1)) Box(D0(v0,K10_0)) P0(K11_0) Shared(Excl(v3))")

// P5.1: E2, by hand.
func TestApply(t *testing.T) {
	for _, test := range []struct{ s, t, want string }{
		{"", "Int", "Int"},
		{"", "v0", "_"},
		{"Box(v1) Int _", "Box(v0)", "Box(Box(Int))"},
		{"Box(v1) Int _", "v2", "v2"},
		{"Box(v1) Int _", "D0(v2,v1,v0,P0)", "D0(v2,Int,Box(Int),P0)"},
		{"Box(v1) Int _", "v3", "_"},
		{"v1 v2 _", "D0(v0,v1,v2)", "D0(v2,v2,v2)"},
		{"_ v0 v1", "D0(v0,v1,v2)", "D0(v0,v0,v0)"},
		{"v1 v3 v0 Box(v4) _", "D0(v2,v1,v2)", "D0(Box(v4),Box(v4),Box(v4))"},
		{"Int", "Int7(v0,Shared(v0))", "Int7(Int,Shared(Int))"},
		{"Int", "P0(v0)", "P0(Int)"},
		{boxed(7, "Int"), "v0", boxed(7, "Int")},
		{boxed(7, "Int"), "Box(v0)", boxed(8, "Int")},
		{boxed(7, "Int"), boxed(9, "v0"), boxed(16, "Int")},
		{"_", boxed(20, "v0"), boxed(20, "v0")},
	} {
		if got := checkApply(t, types(test.s), ty(test.t)); got != test.want {
			t.Errorf("%s applied to %s: %s, want %s", test.s, test.t, got, test.want)
		}
	}
	for _, x := range notOver {
		if got := Apply(types("Int _"), ty(x)); !isZero(got) {
			t.Errorf("applied to %s: %s", x, text(got))
		}
	}
}

// unifications are calls of Unify with their results, by hand.
var unifications = []struct {
	s, a, b, want string
	err           api.Errno
}{
	// equal types, and different heads
	{"", "Int", "Int", "", api.OK},
	{"", "Int", "Int7", "", api.ErrType},
	{"_", "P0", "P1", "", api.ErrType},
	{"_", "P0", "P0", "_", api.OK},
	{"_", "P0(v0)", "P0(Int)", "Int", api.OK},
	{"_", "D1(v0)", "D2(v0)", "", api.ErrType},
	{"_", "D1(v0)", "D1(v0,v0)", "", api.ErrType},
	{"_", "D1(v0)", "D1", "", api.ErrType},
	{"_", "Int7(v0)", "Int7(Arena3)", "Arena3", api.OK},
	{"_ _", "Shared(v0)", "Excl(v0)", "", api.ErrType},
	{"_ _", "D0(v0,Shared(v1))", "D0(Excl(Int),Shared(Arena))", "Excl(Int) Arena", api.OK},
	// through several steps
	{"_ _", "D1(v0,v0)", "D1(Box(v1),Box(Int))", "Box(Int) Int", api.OK},
	{"_ _", "D1(v0,v1)", "D1(Box(v1),Int)", "Box(Int) Int", api.OK},
	{"_ _ _", "D1(v0,v1,v2)", "D1(Box(v1),Box(v2),Int)", "Box(Box(Int)) Box(Int) Int", api.OK},
	{"_ _ _", "D1(v0,v0)", "D1(D1(v1,Int),D1(P0,v2))", "D1(P0,Int) P0 Int", api.OK},
	{"_ _", "D1(v0,v0)", "D1(Int,P0)", "", api.ErrType},
	{"_ _ _", "D1(v0,v1,v0)", "D1(v1,Int,Box(v2))", "", api.ErrType},
	// elements of the substitution
	{"Box(v1) _", "v0", "Box(Int)", "Box(Int) Int", api.OK},
	{"Int _", "v0", "Box(v1)", "", api.ErrType},
	{"Box(v1) _ Box(v3) _", "v0", "v2", "Box(v1) _ Box(v1) v1", api.OK},
	{"Box(v1) Chan(v2) Int", "P0", "P0", "Box(Chan(Int)) Chan(Int) Int", api.OK},
	{"Box(v1) _ Chan(v1)", "v1", "P0", "Box(P0) P0 Chan(P0)", api.OK},
	{"Box(v1) _", "v0", "Chan(v1)", "", api.ErrType},
	// variables that stand for each other
	{"_ _", "v1", "v0", "_ v0", api.OK},
	{"_ _ _", "D1(v2,v1)", "D1(v1,v0)", "_ v0 v0", api.OK},
	{"_ _ _", "D1(v1,v0)", "D1(v2,v2)", "_ v0 v0", api.OK},
	{"_ _ _ _ _", "D1(v4,v3,v1)", "D1(v3,v1,v4)", "_ _ _ v1 v1", api.OK},
	{"_ _ _", "D1(Box(v2),v1)", "D1(v0,v2)", "Box(v1) _ v1", api.OK},
	{"v1 _", "Int", "Int", "_ v0", api.OK},
	{"v2 v0 _", "Int", "Int", "_ v0 v0", api.OK},
	{"v1 v2 v3 _", "P0", "P0", "_ v0 v0 v0", api.OK},
	{"v1 _ _", "v2", "v0", "_ v0 v0", api.OK},
	{"v3 _ _ _ Box(v3)", "v2", "v1", "_ _ v1 v0 Box(v0)", api.OK},
	{"Box(v2) v2 _", "Int", "Int", "Box(v1) _ v1", api.OK},
	{"v2 _ Box(v1)", "v1", "Int", "Box(Int) Int Box(Int)", api.OK},
	// a variable in its own type
	{"_", "v0", "v0", "_", api.OK},
	{"_", "Box(v0)", "Box(v0)", "_", api.OK},
	{"v1 _", "v0", "v1", "_ v0", api.OK},
	{"_", "v0", "D0(Int,Box(v0))", "", api.ErrType},
	{"_ _", "D1(v0,v1)", "D1(Box(v1),Box(v0))", "", api.ErrType},
	{"Box(v1) _", "v1", "Box(v0)", "", api.ErrType},
	{"Box(v1) _", "v0", "v1", "", api.ErrType},
	{"_ _ _", "D0(v0,v1,v2)", "D0(Chan(v1),Chan(v2),Chan(v0))", "", api.ErrType},
	{"_ _", "D0(v0,v0)", "D0(v1,Box(v1))", "", api.ErrType},
	{"_ _", "D0(v0,v1)", "D0(Box(v1),v0)", "", api.ErrType},
	// depths before applying
	{"_", boxed(7, "Int"), boxed(7, "Int"), "_", api.OK},
	{"_", boxed(7, "v0"), boxed(7, "P0"), "P0", api.OK},
	{"_", boxed(8, "Int"), boxed(8, "Int"), "", api.ErrArg},
	{"_", "v0", boxed(7, "Int"), boxed(7, "Int"), api.OK},
	{"_", "v0", boxed(8, "Int"), "", api.ErrArg},
	{"_", "Int", "D0(Int," + boxed(7, "Int") + ")", "", api.ErrArg},
	// depths after applying
	{"_ " + boxed(3, "Int"), "v0", boxed(4, "v1"), boxed(7, "Int") + " " + boxed(3, "Int"), api.OK},
	{"_ " + boxed(4, "Int"), "v0", boxed(4, "v1"), "", api.ErrLimit},
	{boxed(4, "Int"), boxed(4, "v0"), boxed(4, "v0"), "", api.ErrLimit},
	{boxed(3, "Int"), boxed(4, "v0"), boxed(4, "v0"), boxed(3, "Int"), api.OK},
	{"_ _", "D1(v1," + boxed(6, "v1") + ")", "D1(Box(Int),v0)", "", api.ErrLimit},
	{"_ _", "D1(v1," + boxed(5, "v1") + ")", "D1(Box(Int),v0)", boxed(6, "Int") + " Box(Int)", api.OK},
	{boxed(7, "v1") + " _", "v1", "Int", boxed(7, "Int") + " Int", api.OK},
	{boxed(7, "v1") + " _", "v1", "Box(v2)", "", api.ErrArg},
	{boxed(7, "v1") + " _ _", "v1", "Box(v2)", "", api.ErrLimit},
	{boxed(7, "v1") + " _ _", "v1", "v2", boxed(7, "v1") + " _ v1", api.OK},
	// ErrArg first, then ErrType, then ErrLimit
	{"_ " + boxed(4, "Int"), "D0(v0,Int)", "D0(" + boxed(4, "v1") + ",P0)", "", api.ErrType},
	{"_ " + boxed(4, "Int"), "D0(Int,v0)", "D0(P0," + boxed(4, "v1") + ")", "", api.ErrType},
	{"_ " + boxed(4, "Int") + " _", "D0(v0,v2)", "D0(" + boxed(4, "v1") + ",Box(v2))", "", api.ErrType},
	{boxed(4, "v1") + " _", boxed(4, "v1"), boxed(4, "v0"), "", api.ErrType},
	{boxed(4, "Int"), "Int", boxed(4, "v0"), "", api.ErrType},
	{"_", "Box(Int)", "Chan(" + boxed(7, "Int") + ")", "", api.ErrArg},
	{"v0", "v0", "Box(v0)", "", api.ErrArg},
	{boxed(8, "Int"), "Int", "P0", "", api.ErrArg},
}

// P5.1: E3, by hand.
func TestUnify(t *testing.T) {
	for _, test := range unifications {
		s, a, b := types(test.s), ty(test.a), ty(test.b)
		r, err := Unify(s, a, b)
		if err != test.err || !slices.Equal(texts(r), strings.Fields(test.want)) {
			t.Errorf("%s with %s and %s: %v, error %d, want %s, error %d", test.s, test.a, test.b, texts(r), err, test.want, test.err)
		}
		checkUnify(t, s, a, b)
	}
	s, good := types("Int _"), ty("Int")
	for _, x := range notOver {
		if checkUnify(t, s, good, ty(x)) != api.ErrArg || checkUnify(t, s, ty(x), ty(x)) != api.ErrArg || checkUnify(t, s, ty(x), ty("P0")) != api.ErrArg {
			t.Errorf("%s is over a substitution", x)
		}
	}
}

// matchings are calls of Match with their results, by hand. Where want is -, there are no types.
var matchings = []struct {
	pattern, t string
	params     int
	want       string
}{
	{"Int", "Int", 0, ""},
	{"Int", "Int", 4, "_ _ _ _"},
	{"Int", "Int", -1, "-"},
	{"Int", "Int", 5, "-"},
	{"P0", "Int", 5, "-"},
	{"P0", "Int", math.MinInt, "-"},
	{"P0", "Int", math.MaxInt, "-"},
	{"D0(P3,P0)", "D0(Int,Box(Int))", 4, "Box(Int) _ _ Int"},
	{"Box(P0)", "Int", 1, "-"},
	{"Box(P0)", "Chan(Int)", 1, "-"},
	{"Box(P0)", "Box1(Int)", 1, "-"},
	{"Box(P0)", "Box(Int,Int)", 1, "-"},
	{"Box(P0)", "Box", 1, "-"},
	{"Int", "P0", 1, "-"},
	// a repeated parameter
	{"D1(P0,P0)", "D1(Int,Int)", 1, "Int"},
	{"D1(P0,P0)", "D1(Int,Box(Int))", 1, "-"},
	{"D1(P0,P0)", "D1(Box(D2(v0,P1)),Box(D2(v0,P1)))", 1, "Box(D2(v0,P1))"},
	{"D1(P0,P0)", "D1(Box(Int),Box(P0))", 1, "-"},
	{"D1(P0,P0)", "D1(Int,Int1)", 1, "-"},
	{"D1(P0,Box(P0))", "D1(Box(Int),Int)", 1, "-"},
	{"D1(P0,P0)", "D1(_,Int)", 1, "-"},
	{"D1(P0,P0)", "D1(Int,_)", 1, "-"},
	{"D1(P0,P0)", "D1(_,_)", 1, "_"},
	// a parameter that does not occur, and one with another number
	{"P1", "Int", 2, "_ Int"},
	{"P1", "Int", 1, "-"},
	{"P1", "P1", 1, "-"},
	{"P0", "P0", 0, "-"},
	{"P-1", "Int", 4, "-"},
	{"P-1", "P-1", 4, "-"},
	{"P4", "P4", 4, "-"},
	{"D1(Int,P1)", "D1(Int,P1)", 1, "-"},
	{"D1(P1,P1)", "D1(Int,Int)", 1, "-"},
	// a parameter with Args
	{"P0(Int)", "Box(Int)", 1, "Box(Int)"},
	{"P0(P7,P0)", "Int", 1, "Int"},
	{"D1(P0(P1),P0(Int))", "D1(Chan(P3),Chan(P3))", 2, "Chan(P3) _"},
	{"P1(P0)", "P1(P0)", 1, "-"},
	// types with parameters, variables and anything else
	{"D1(P1,P0)", "D1(Int,P0)", 3, "P0 Int _"},
	{"D1(P0,P1)", "D1(P1,P0)", 2, "P1 P0"},
	{"P0", "P5(v0)", 1, "P5(v0)"},
	{"P0", "_", 1, "_"},
	{"P0", "K12_-4(_,v0(Int))", 1, "K12_-4(_,v0(Int))"},
	{"v0", "v0", 0, ""},
	{"v0", "Int", 1, "-"},
	{"v0", "v1", 1, "-"},
	{"_", "_", 0, ""},
	{"K12_3(P0)", "K12_3(Int)", 1, "Int"},
	{"K12_3(P0)", "K12_4(Int)", 1, "-"},
	{boxed(9, "P0"), boxed(20, "Int"), 1, boxed(11, "Int")},
}

// P5.1: E4, by hand.
func TestMatch(t *testing.T) {
	for _, test := range matchings {
		types, ok := Match(ty(test.pattern), ty(test.t), test.params)
		if ok != (test.want != "-") || ok && !slices.Equal(texts(types), strings.Fields(test.want)) || !ok && len(types) > 0 {
			t.Errorf("%s and %s, %d: %v, %v, want %s", test.pattern, test.t, test.params, texts(types), ok, test.want)
		}
	}
	x := ty("D1(Box(Int),Box(Int))")
	for _, pattern := range []string{"P0", "D1(P0,P1)", "D1(P0,P0)"} {
		types, _ := Match(ty(pattern), x, 2)
		isNew(t, types, x)
	}
}

// small is a program with data types of no parameter, of one, of two, and of four.
var small = api.Program{Datas: []api.Data{{}, {Params: 1}, {Params: 2}, {Params: 4}}}

// P5.1: E5, by hand.
func TestValid(t *testing.T) {
	for _, test := range []struct {
		params int
		good   string
		bad    string
	}{
		{0, "Int Arena", "Int1 Int-1 Int(Int) Arena1 Arena-1 Arena(Int) Arena(Arena)"},
		{0, "D0 D1(Int) D2(Int,Box(Int)) D3(Int,Int,D0,Chan(D0))", "D-1 D4 D0(Int) D1 D1(Int,Int) D2(Int) D2(Int,Int,Int) D3(Int,Int,Int) D3"},
		{0, "D2(D2(D0,D0),D1(D1(Int)))", "D2(D2(D0),D0) D1(D4) D1(D0(Int)) D1(_) D1(v0) D1(Int1)"},
		{0, "Box(Int) Chan(Int) Box(Chan(D0)) Chan(Box(Int))", "Box Chan Box1(Int) Chan-1(Int) Box(Int,Int) Chan(Int,Int) Box(_) Chan(Box)"},
		{0, "Shared(Int) Excl(Int) Shared(D1(Int)) Excl(Box(Int)) Shared(Arena)", "Shared Excl Shared1(Int) Excl1(Int) Shared(Int,Int) Excl(Int,Int) Excl(Arena) Shared(Arena1) Shared(Arena(Int)) Shared(Arena,Arena) Shared(Int1)"},
		{0, "", "Shared(Shared(Int)) Shared(Excl(Int)) Excl(Shared(Int)) Excl(Excl(Int)) Shared(Box(Arena))"},
		{0, "", "Box(Arena) Chan(Arena) D1(Arena) Box(Shared(Int)) Chan(Excl(Int)) D1(Shared(Int)) D2(Int,Excl(Int)) D2(Arena,Int) Box(Shared(Arena))"},
		{0, "", "P0 P-1 Box(P0) v0 v0(Int) _ K0_1 K10_0 K-1_0 Box(v0) Shared(P0)"},
		{1, "P0 Box(P0) D2(P0,P0) Shared(P0) Excl(P0) Int", "P1 P-1 P0(Int) Box(P1) D2(P0,P1) Shared(P1) Excl(P0(P0))"},
		{4, "P0 P3 D3(P0,P1,P2,P3) Int", "P4 Box(P4) D3(P1,P2,P3,P4)"},
		{5, "", "Int P0 P4 D0 Arena"},
		{-1, "", "Int P0 P-1 D0 Arena"},
		{math.MaxInt, "", "Int P0"},
		{math.MinInt, "", "Int P0"},
		{1, boxed(7, "Int") + " " + boxed(7, "P0") + " Shared(" + boxed(6, "D0") + ") D2(Int," + boxed(6, "Int") + ")", boxed(8, "Int") + " " + boxed(8, "P0") + " Shared(" + boxed(7, "D0") + ") D2(Int," + boxed(7, "Int") + ") D2(" + boxed(7, "Int") + ",Int)"},
	} {
		for _, s := range strings.Fields(test.good) {
			if !Valid(small, test.params, ty(s)) {
				t.Errorf("%s is not well-formed for %d parameters", s, test.params)
			}
		}
		for _, s := range strings.Fields(test.bad) {
			if Valid(small, test.params, ty(s)) {
				t.Errorf("%s is well-formed for %d parameters", s, test.params)
			}
		}
	}
	if Valid(api.Program{}, 0, ty("D0")) || !Valid(api.Program{}, 0, ty("Int")) {
		t.Error("a program without data types")
	}
}
