package matching

import (
	"math"
	"slices"
	"strings"
	"testing"

	"leasehold/api"
)

// program returns the data types of most tests: option, flag, pair, one without variants, a list of flags, and a light with three colours.
func program() []api.Data {
	return datas("1 [] [P0]", "0 [] []", "2 [P0 P1]", "0", "0 [] [D1 D4]", "0 [] [] []")
}

// found is what a test wants of Missing and Useless.
type found struct{ t, l, missing, useless string }

func checkFound(t *testing.T, d []api.Data, tests []found) {
	t.Helper()
	for _, test := range tests {
		l := patterns(test.l)
		if got := foundText(Missing(d, ty(test.t), l)); got != test.missing {
			t.Errorf("%s, %s: %s is missing, and not %s", test.t, test.l, got, test.missing)
		}
		var useless []int
		for _, word := range strings.Fields(test.useless) {
			useless = append(useless, number(word))
		}
		if got := Useless(d, ty(test.t), l); !slices.Equal(got, useless) {
			t.Errorf("%s, %s: %d are useless, and not %s", test.t, test.l, got, test.useless)
		}
	}
}

// The chapter's examples.
func TestExamples(t *testing.T) {
	checkFound(t, program(), []found{
		{"D0(D1)", "0 1(_)", "none", ""},
		{"D0(D1)", "1(1)", "0", ""},
		{"D0(D1)", "0 1(0) 1(_) 0", "none", "3"},
		{"D0(D1)", "1(0) 0", "1(1)", ""},
	})
}

func TestNoPatterns(t *testing.T) {
	for _, of := range []string{"Int", "D1", "D0(D1)", "D3", "D9", "_", "Box(D1)", "D0", "P0", "v3"} {
		checkFound(t, program(), []found{{of, "", "_", ""}, {of, "_", "none", ""}, {of, "_ _ _", "none", "1 2"}})
	}
	checkFound(t, nil, []found{{"D0", "", "_", ""}, {"D0", "_", "none", ""}, {"D0", "0", "none", ""}})
}

// The first missing row has the least variants, from the first field on, and -1 where no row looks.
func TestFirstMissing(t *testing.T) {
	checkFound(t, program(), []found{
		{"D1", "0", "1", ""},
		{"D1", "1", "0", ""},
		{"D5", "1", "0", ""},
		{"D5", "0", "1", ""},
		{"D5", "2 0", "1", ""},
		{"D5", "1 0", "2", ""},
		{"D5", "1 2 0", "none", ""},
		{"D2(D1,D1)", "0(0,_) 0(_,1)", "0(1,0)", ""},
		{"D2(D1,D1)", "0(_,1)", "0(_,0)", ""},
		{"D2(D1,D1)", "0(0,_)", "0(1,_)", ""},
		{"D2(D1,D1)", "0(0,1) 0(1,_)", "0(0,0)", ""},
		{"D2(D1,D1)", "0(0,1) 0(1,1)", "0(0,0)", ""},
		{"D2(D1,D1)", "0(0,0) 0(1,1) 0(0,1)", "0(1,0)", ""},
		{"D2(D1,D1)", "0(0,1) 0(_,1)", "0(0,0)", ""}, // the first row makes a difference, though it matches nothing else
		{"D2(D1,D1)", "0(_,1) 0(0,1)", "0(0,0)", "1"},
		{"D2(Int,D5)", "0(_,0) 0(_,2)", "0(_,1)", ""},
		{"D2(D0(D1),D0(D1))", "0(0,_) 0(1(_),0) 0(1(0),1(_))", "0(1(1),1(_))", ""},
		{"D2(D0(D1),D0(D1))", "0(1(_),1(_)) 0(_,0)", "0(0,1(_))", ""},
		{"D0(D0(D1))", "0 1(0)", "1(1(_))", ""},
		{"D0(D2(Int,Int))", "0 1(0(_,_))", "none", ""},
		{"D0(D2(Int,Int))", "0", "1(_)", ""},
		{"D2(D2(D1,D5),D1)", "0(0(0,_),_) 0(0(_,0),0) 0(0(1,1),_)", "0(0(1,0),1)", ""},
		{"D4", "0 1(0,0) 1(_,1(_,1(1,_)))", "1(0,1(_,0))", ""},
		{"D4", "0 1(_,0) 1(_,1(_,_))", "none", ""},
	})
}

// Rows with several elements, of which the missing one needs the further ones.
func TestFurtherElements(t *testing.T) {
	checkFound(t, datas("0 [] []", "0 [D0 D0 D0]", "0 [] [D0 D0] [D2]"), []found{
		{"D1", "0(0,0,_) 0(_,1,0) 0(1,_,1)", "0(0,1,1)", ""},
		{"D1", "0(0,0,_) 0(_,1,0) 0(1,_,1) 0(0,1,_)", "0(1,0,0)", ""},
		{"D1", "0(0,0,_) 0(_,1,0) 0(1,_,1) 0(0,1,_) 0(1,0,_) 0(1,1,0)", "none", "5"},
		{"D1", "0(_,_,1)", "0(_,_,0)", ""},
		{"D1", "0(1,_,1)", "0(0,_,_)", ""},
		{"D1", "0(0,_,_) 0(1,_,1)", "0(1,_,0)", ""},
		{"D2", "0 1(0,_) 1(_,0) 2(0) 2(1(_,_)) 2(2(_))", "1(1,1)", ""},
		{"D2", "0 1(_,_) 2(0) 2(1(1,_)) 2(1(_,1)) 2(2(2(_)))", "2(1(0,0))", ""},
	})
}

func TestUseless(t *testing.T) {
	checkFound(t, program(), []found{
		{"D1", "1 0 1 _", "none", "2 3"},
		{"D1", "1 _ 0 1 _", "none", "2 3 4"},
		{"D1", "0 0 0", "1", "1 2"},
		{"D0(D1)", "0 1(0) 1(_) 1(1)", "none", "3"},
		{"D0(D1)", "1(1) 1(0) 1(_)", "0", "2"}, // two cover a third one together
		{"D0(D1)", "1(1) 1(0) 1(_) 0 _", "none", "2 4"},
		{"D2(D1,D1)", "0(0,_) 0(_,1) 0(0,1) 0(1,1) 0(1,0) _", "none", "2 3 5"},
		{"D2(D1,D1)", "0(_,0) 0(0,1) 0(0,_) 0(1,0) 0(_,_) 0(1,1)", "none", "2 3 5"},
		{"D2(D1,D1)", "0(0,0) 0(1,1) 0(_,_) 0(0,1)", "none", "3"},
		{"D2(D5,D1)", "0(0,_) 0(1,_) 0(_,0) 0(2,0) 0(2,_) 0(_,1)", "none", "3 5"},
		{"D2(D5,D1)", "0(_,0) 0(0,1) 0(1,1) 0(2,1) 0(_,1)", "none", "4"},
		{"D2(D5,D1)", "0(_,0) 0(0,1) 0(1,1) 0(_,1)", "none", ""},
		{"D2(D2(D1,D1),D1)", "0(0(0,_),0) 0(0(1,_),0) 0(0(_,0),0) 0(_,0) 0(0(_,1),1)", "0(0(0,0),1)", "2 3"},
		{"Int", "_ _", "none", "1"},
		{"D3", "_ _", "none", "1"},
		{"D4", "1(_,1(_,_)) 1(0,1(1,0)) 1(_,0) 1(_,_) 0 _", "none", "1 3 5"},
	})
}

// A pattern that is not right: neither function finds anything.
func TestNotRight(t *testing.T) {
	d := append(program(), datas("2 [P0 Box(P1)]", "0 [P0]", "-1 []", "1 [D0(D0(P0))] [D1(P0)] [D9] [D0] [P1]")...)
	for _, test := range []struct{ t, right, wrong string }{
		{"D1", "_ 0 1", "_(_) _(0) _(0,1)"},                          // Variant -1 with Fields
		{"Int", "_", "0"},                                            // no TyData
		{"Box(D1)", "_", "0 0(_)"},                                   // no TyData
		{"P1", "_", "0"},                                             // no TyData
		{"Shared(D1)", "_", "0 1"},                                   // no TyData
		{"_", "_", "0"},                                              // the zero type
		{"K2000_1", "_", "0"},                                        // no Kind
		{"D10", "_", "0"},                                            // no index of a data type
		{"D-1", "_", "0"},                                            // no index of a data type
		{"D0", "_", "0 1(_)"},                                        // too few Args
		{"D0(D1,D1)", "_", "0 1(_)"},                                 // too many Args
		{"D1(D1)", "_", "0 1"},                                       // too many Args
		{"D8", "_", "0"},                                             // a number of Params that no Args have
		{"D3", "_", "0"},                                             // no variants
		{"D1", "0 1", "2 -2 -9 10"},                                  // no index of a variant
		{"D0(D1)", "1(0)", "0(_) 1 1(_,_)"},                          // too many and too few Fields
		{"D2(D1,D1)", "0(_,_) 0(0,1)", "0 0(_) 0(_,_,_)"},            // too many and too few Fields
		{"D0(D1)", "1(1) 1(_)", "1(2) 1(-2) 1(0(_)) 1(_(_))"},        // a Field that is not right
		{"D0(Int)", "1(_)", "1(0)"},                                  // not right for the argument
		{"D0(D0(D5))", "1(1(2))", "1(1(3)) 1(2)"},                    // not right for the argument's argument
		{"D6(D5,D5)", "0(2,_)", "0(3,_) 0(_,0)"},                     // the parameter in a box
		{"D7", "0(_)", "0(0)"},                                       // a parameter that there is no argument for
		{"D9(D1)", "0(1(1(1)))", "0(1(1(2)))"},                       // an argument inside arguments
		{"D9(D1)", "1(_) 2(_) 3(_) 4(_)", "1(0) 2(0) 3(0) 4(0)"},     // fields whose types are not right themselves
		{"D2(D5,D0(D1))", "0(2,1(1))", "0(1(1),2) 0(0,2) 0(2,0(_))"}, // the arguments in their order
	} {
		for _, x := range patterns(test.right) {
			if _, ok := Missing(d, ty(test.t), []api.Pattern{x}); !ok && x.Variant >= 0 && len(d[ty(test.t).Id].Variants) > 1 || len(Useless(d, ty(test.t), []api.Pattern{x, x})) != 1 {
				t.Errorf("%s: %s is right", test.t, patternText(x))
			}
		}
		for _, x := range patterns(test.wrong) {
			for _, l := range [][]api.Pattern{{x}, {{Variant: -1}, x}, {x, x}, {{Variant: -1}, {Variant: -1}, x, {Variant: -1}}} {
				if got, useless := foundText(Missing(d, ty(test.t), l)), Useless(d, ty(test.t), l); got != "none" || len(useless) != 0 {
					t.Errorf("%s: %s is not right, but: %s, %d", test.t, patternText(x), got, useless)
				}
			}
		}
	}
}

// Variants far from all indices.
func TestFarVariants(t *testing.T) {
	for _, v := range []int{math.MinInt, -1 << 32, 1 << 32, math.MaxInt} {
		l := []api.Pattern{{Variant: v}}
		if got, useless := foundText(Missing(program(), ty("D1"), l)), Useless(program(), ty("D1"), l); got != "none" || len(useless) != 0 {
			t.Errorf("%d: %s, %d", v, got, useless)
		}
		for _, of := range []api.Type{{Kind: api.TyData, Id: v}, {Kind: v}, {Kind: api.TyParam, Id: v}} {
			if got := foundText(Missing(program(), of, patterns("0"))); got != "none" {
				t.Errorf("%v: %s", of, got)
			}
		}
	}
}

func TestMatches(t *testing.T) {
	for _, test := range []struct {
		x, v string
		want bool
	}{
		{"_", "int", true}, {"_", "nothing", true}, {"_", "3(int)", true},
		{"_(5)", "int", true}, {"_(5)", "0", true}, // -1 matches any value, even if the pattern is right for no type
		{"0", "0", true}, {"0", "1", false}, {"1", "0", false}, {"7", "7", true}, {"-2", "-2", true}, {"-2", "-3", false},
		{"0", "int", false}, {"0", "nothing", false}, {"0", "box", false}, {"0", "chan", false}, {"0", "arena", false}, {"0", "ref", false},
		{"1(_)", "1(int)", true}, {"1(_)", "1", false}, {"1", "1(int)", false}, {"1(_)", "1(int,int)", false}, {"1(_,_)", "1(int)", false},
		{"1(0)", "1(0)", true}, {"1(0)", "1(1)", false}, {"1(0)", "1(int)", false}, {"1(0)", "2(0)", false},
		{"1(0,_)", "1(0,int)", true}, {"1(0,_)", "1(int,0)", false}, {"1(_,0)", "1(int,0)", true}, {"1(0,0)", "1(0,0(int))", false},
		{"2(1(_,3),_)", "2(1(int,3),ref)", true}, {"2(1(_,3),_)", "2(1(int,4),ref)", false}, {"2(1(_,3),_)", "2(1(3),ref)", false},
	} {
		if got := Matches(pattern(test.x), value(test.v)); got != test.want {
			t.Errorf("%s matches %s: %t", test.x, test.v, got)
		}
	}
}

// Only the Kind, the Variant and the Fields of a value matter.
func TestOtherPartsOfValues(t *testing.T) {
	v := api.Value{Kind: api.ValData, Id: 8, Variant: 1, N: 3, Excl: true, Path: []int{1}, Loans: []int{2}}
	if !Matches(pattern("1"), v) || Matches(pattern("8"), v) || Matches(pattern("3"), v) {
		t.Error("the other parts matter")
	}
	for kind := range 9 {
		if v := (api.Value{Kind: kind, Variant: 1, Id: 1, N: 1}); Matches(pattern("1"), v) != (kind == api.ValData) || !Matches(pattern("_"), v) {
			t.Errorf("Kind %d", kind)
		}
	}
}
