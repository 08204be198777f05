package traits

import (
	"math"
	"slices"
	"strings"
	"testing"

	"leasehold/api"
)

// P6.1: the chapter's examples.
func TestExamples(t *testing.T) {
	p := program("0/0 Int", "0/1 Box(P0) 0:0")
	for _, example := range []struct {
		t, bounds, want string
		err             api.Errno
	}{
		{"Box(Box(Int))", "", "1[Box(Int)](1[Int](0))", api.OK},
		{"Chan(Int)", "", "0", api.ErrTrait},
		{"Box(P2)", "2:0", "1[P2](b0)", api.OK},
	} {
		x, err := Select(p, bounds(example.bounds), 0, ty(example.t))
		if proofText(x) != example.want || err != example.err {
			t.Errorf("%s: %s, error %d", example.t, proofText(x), err)
		}
	}
	if !Overlap(impl("0/1 Box(P0)"), impl("0/0 Box(Int)")) {
		t.Error("no overlap")
	}
}

// overlapTests are pairs of implementations, and whether they overlap.
var overlapTests = []struct {
	a, b string
	want bool
}{
	{"0/0 Int", "0/0 Int", true},
	{"0/0 Int", "1/0 Int", false}, // other traits, which need not be there
	{"7/0 Int", "7/0 Int", true},
	{"-1/0 Int", "-1/0 Int", true},
	{"-1/0 Int", "1/0 Int", false},
	{"0/0@5 Int", "0/0@-3 Int", true},            // other modules
	{"0/1 Box(P0) 0:1", "0/1 Box(P0) 0:2", true}, // bounds do not matter,
	{"0/1 Box(P0) 0:1", "0/0 Box(Int)", true},    //
	{"0/0 Int 9:9 -1:-1", "0/0 Int", true},       // not even wrong ones
	{"0/0 Int", "0/0 Box(Int)", false},
	{"0/0 Box(Int)", "0/0 Chan(Int)", false},
	{"0/0 D2", "0/0 D3", false},
	{"0/0 D99(Int)", "0/0 D99(Int)", true}, // there is no program
	{"0/0 D0(Int)", "0/0 D0(Int,Int)", false},
	{"0/0 D0", "0/0 D0(Int)", false},
	{"0/0 Int7(Box)", "0/0 Int7(Box)", true},
	{"0/0 Int7", "0/0 Int", false},
	{"0/0 D-1", "0/0 D-1", true},
	{"0/1 P0", "0/0 Int", true},
	{"0/1 P0", "0/1 P0", true},
	{"0/2 P1", "0/0 Chan(D2)", true}, // a parameter that does not occur
	{"0/1 Box(P0)", "0/0 Box(Chan(Int))", true},
	{"0/1 Box(P0)", "0/0 Chan(Int)", false},
	{"0/1 P0", "0/1 Box(P0)", true}, // the same Id, but two parameters
	{"0/1 Box(P0)", "0/1 Box(Box(P0))", true},
	{"0/2 D0(P0,P1)", "0/2 D0(P1,P0)", true},
	{"0/2 D0(P0,Box(P1))", "0/2 D0(P1,P0)", true},
	{"0/1 D0(P0,P0)", "0/0 D0(Int,Int)", true}, // a parameter that occurs twice
	{"0/1 D0(P0,P0)", "0/0 D0(Int,D2)", false},
	{"0/1 D0(P0,P0)", "0/1 D0(P0,Int)", true},
	{"0/1 D0(P0,P0)", "0/1 D0(P0,Box(P0))", false}, // that would contain itself
	{"0/1 D0(P0,P0)", "0/2 D0(P0,Box(P1))", true},
	{"0/1 D0(P0,Int)", "0/1 D0(Box(P0),P0)", true},
	{"0/1 D0(P0,Box(Int))", "0/1 D0(Box(P0),P0)", true},
	{"0/1 D0(P0,Box(P0))", "0/1 D0(Box(P0),P0)", false},
	{"0/2 D3(P0,P1,P0)", "0/1 D3(P0,P0,Box(P0))", false},
	{"0/2 D3(P0,P1,P0)", "0/1 D3(Int,P0,Box(P0))", false},
	{"0/4 D3(P0,P1,P2,P3)", "0/4 D3(P3,P2,P1,P0)", true},
	{"0/4 D3(P0,P1,P2,P3)", "0/4 D3(Box(P1),Box(P2),Box(P3),Int)", true},
}

// P6.1: F1, by hand, in both orders.
func TestOverlap(t *testing.T) {
	checkOverlaps(t, overlapTests)
}

func checkOverlaps(t *testing.T, tests []struct {
	a, b string
	want bool
}) {
	t.Helper()
	for _, test := range tests {
		a, b := impl(test.a), impl(test.b)
		if got := Overlap(a, b); got != test.want {
			t.Errorf("%s and %s: %v", test.a, test.b, got)
		}
		if got := Overlap(b, a); got != test.want {
			t.Errorf("%s and %s: %v", test.b, test.a, got)
		}
	}
}

// P6.1: F1, depths of 8 and 9, before and after unifying.
func TestOverlapDepths(t *testing.T) {
	checkOverlaps(t, []struct {
		a, b string
		want bool
	}{
		{"0/0 " + boxed(7, "Int"), "0/0 " + boxed(7, "Int"), true},
		{"0/0 " + boxed(8, "Int"), "0/0 " + boxed(8, "Int"), false},
		{"0/1 " + boxed(7, "P0"), "0/0 " + boxed(7, "Int"), true},
		{"0/1 " + boxed(7, "P0"), "0/1 P0", true},
		{"0/1 " + boxed(8, "P0"), "0/1 P0", false},
		{"0/1 P0", "0/0 D0(Int," + boxed(6, "Int") + ")", true},
		{"0/1 P0", "0/0 D0(Int," + boxed(7, "Int") + ")", false},
		{"0/1 " + boxed(7, "P0"), "0/0 " + boxed(8, "Int"), false},
		{"0/1 D0(P0," + boxed(4, "P0") + ")", "0/1 D0(" + boxed(2, "Int") + ",P0)", true}, // P0 of the second one becomes Box^6(Int)
		{"0/1 D0(P0," + boxed(4, "P0") + ")", "0/1 D0(" + boxed(3, "Int") + ",P0)", false},
		{"0/1 D0(P0," + boxed(4, "P0") + ")", "0/2 D0(" + boxed(2, "P1") + ",P0)", true},
		{"0/1 D0(P0," + boxed(4, "P0") + ")", "0/2 D0(" + boxed(3, "P1") + ",P0)", false},
		{"0/3 D3(P0,P1,P2)", "0/3 D3(Box(P1),Box(P2),Int)", true},
		{"0/4 D3(Box(P1),Box(P2),Box(P3),P3)", "0/4 D3(P0,Box(P1),Box(P2),Box(P3))", true},
		{"0/2 D3(" + boxed(3, "P0") + "," + boxed(4, "P1") + ",P1)", "0/2 D3(P0,P0,P1)", true},
		{"0/2 D3(P0," + boxed(3, "P0") + "," + boxed(3, "P1") + ")", "0/2 D3(Int,P1,P0)", true},
		{"0/2 D3(P0," + boxed(3, "P0") + ",P1," + boxed(3, "P1") + ")", "0/2 D3(Int,P1,P1,P0)", true}, // Box^6(Int), so that all of it has the depth 8
		{"0/2 D3(P0," + boxed(3, "P0") + ",P1," + boxed(4, "P1") + ")", "0/2 D3(Int,P1,P1,P0)", false},
	})
}

// P6.1: F1, what makes an implementation one that overlaps with nothing.
func TestOverlapWithNothing(t *testing.T) {
	for _, good := range []string{"0/0 Int", "0/1 P0", "0/4 D3(P0,P1,P2,P3)", "0/0 Box(Chan(D2))", "0/1 Box(P0)", "0/2 Int"} {
		if m := impl(good); !Overlap(m, m) {
			t.Errorf("%s does not overlap with itself", good)
		}
	}
	every := impl("0/1 P0")
	for _, bad := range []string{
		"0/-1 Int", "0/5 Int", "0/5 P0", "0/5 P4", "0/-1 P-1", // Params
		"0/0 _", "0/0 K0_1", "0/0 K-1_0", "0/0 K10_0", "0/0 K12_0(Int)", // Kinds
		"0/0 Arena", "0/0 Shared(Int)", "0/0 Excl(Int)", "0/0 v0", "0/1 v0", "0/0 v4",
		"0/0 Box(_)", "0/0 Box(Arena)", "0/0 Chan(Shared(Int))", "0/0 D0(Int,Excl(Int))", "0/0 Box(v0)", "0/0 Box(Box(v1))",
		"0/0 Int(Arena)", "0/0 D0(Int,K10_0)", "0/0 D0(K-1_0,Int)", "0/0 Shared(Arena)",
		"0/1 P0(Int)", "0/1 Box(P0(Int))", "0/1 P0(P0)", "0/1 Box(P0(_))", // parameters
		"0/0 P0", "0/1 P1", "0/1 P-1", "0/1 Box(P1)", "0/3 D0(P0,P3)", "0/4 P4", "0/0 Int(P0)", "0/4 D0(Int,P-1)",
	} {
		m := impl(bad)
		if Overlap(m, m) || Overlap(m, every) || Overlap(every, m) {
			t.Errorf("%s overlaps", bad)
		}
	}
	for _, n := range []int{math.MinInt, math.MaxInt} {
		many := api.Impl{Params: n, Type: ty("P0")}
		far := api.Impl{Params: 4, Type: api.Type{Kind: api.TyParam, Id: n}}
		strange := api.Impl{Type: api.Type{Kind: n}}
		if Overlap(many, every) || Overlap(every, far) || Overlap(strange, every) {
			t.Error(n)
		}
	}
}

// coherentTests are implementations, separated by semicolons, of the program of the tests, and what Coherent returns.
var coherentTests = []struct {
	impls string
	err   api.Errno
	a, b  int
}{
	{"", api.OK, 0, 0},
	{"0/0 Int", api.OK, 0, 0},
	{"0/0 Int; 1/0 Int; 2/0@1 Int", api.OK, 0, 0},
	{"0/0 Int; 0/1 Box(P0) 0:0; 0/1 Chan(P0); 0/2 D0(P0,P1) 1:0 0:2; 0/1 D1(P0); 0/0 D2", api.OK, 0, 0},
	{"0/4 D0(D0(P0,P1),D0(P3,P2)) 3:2 0:1", api.OK, 0, 0},
	// not well-formed: the Trait,
	{"3/0 Int", api.ErrArg, 0, 0},
	{"-1/0 Int", api.ErrArg, 0, 0},
	{"0/0 Int; 3/0 Int", api.ErrArg, 1, 1},
	// the Module,
	{"0/0@-1 Int", api.ErrArg, 0, 0},
	{"0/0 Int; 0/0 D2; 1/0@-1 Int", api.ErrArg, 2, 2},
	// Params,
	{"0/-1 Int", api.ErrArg, 0, 0},
	{"0/5 D0(P0,D0(P1,D0(P2,D0(P3,P4))))", api.ErrArg, 0, 0},
	{"0/4 D0(P0,D0(P1,D0(P2,P3)))", api.OK, 0, 0},
	{"0/4 D0(P0,D0(P1,D0(P2,P0)))", api.ErrArg, 0, 0},
	{"0/4 D0(P3,D0(P1,D0(P2,P3)))", api.ErrArg, 0, 0},
	{"0/1 Int", api.ErrArg, 0, 0},
	{"0/2 P0", api.ErrArg, 0, 0},
	{"0/2 P1", api.ErrArg, 0, 0},
	{"0/2 Box(P1)", api.ErrArg, 0, 0},
	{"0/2 D0(P1,P0)", api.OK, 0, 0},
	// the Type,
	{"0/0 _", api.ErrArg, 0, 0},
	{"0/0 K10_0", api.ErrArg, 0, 0},
	{"0/0 Arena", api.ErrArg, 0, 0},
	{"0/0 Shared(Int)", api.ErrArg, 0, 0},
	{"0/0 Shared(Arena)", api.ErrArg, 0, 0},
	{"0/0 Excl(Int)", api.ErrArg, 0, 0},
	{"0/1 Excl(P0)", api.ErrArg, 0, 0},
	{"0/0 v0", api.ErrArg, 0, 0},
	{"0/0 Box(Shared(Int))", api.ErrArg, 0, 0},
	{"0/0 Box(Arena)", api.ErrArg, 0, 0},
	{"0/0 Box", api.ErrArg, 0, 0},
	{"0/0 Box(Int,Int)", api.ErrArg, 0, 0},
	{"0/0 Box3(Int)", api.ErrArg, 0, 0},
	{"0/0 Int1", api.ErrArg, 0, 0},
	{"0/0 Int(Int)", api.ErrArg, 0, 0},
	{"0/0 D3", api.ErrArg, 0, 0},
	{"0/0 D-1", api.ErrArg, 0, 0},
	{"0/0 D0", api.ErrArg, 0, 0},
	{"0/0 D0(Int)", api.ErrArg, 0, 0},
	{"0/0 D1(Int,Int)", api.ErrArg, 0, 0},
	{"0/0 D2(Int)", api.ErrArg, 0, 0},
	{"0/1 P0(Int)", api.ErrArg, 0, 0},
	{"0/1 P1", api.ErrArg, 0, 0},
	{"0/1 D0(P0,P1)", api.ErrArg, 0, 0},
	{"0/1 D0(P0,P-1)", api.ErrArg, 0, 0},
	{"0/0 " + boxed(7, "Int"), api.OK, 0, 0},
	{"0/0 " + boxed(8, "Int"), api.ErrArg, 0, 0},
	{"0/1 " + boxed(7, "P0"), api.OK, 0, 0},
	{"0/1 " + boxed(8, "P0"), api.ErrArg, 0, 0},
	// the Bounds
	{"0/1 Box(P0) 1:0", api.ErrArg, 0, 0},
	{"0/1 Box(P0) -1:0", api.ErrArg, 0, 0},
	{"0/0 Int 0:0", api.ErrArg, 0, 0},
	{"0/1 Box(P0) 0:3", api.ErrArg, 0, 0},
	{"0/1 Box(P0) 0:-1", api.ErrArg, 0, 0},
	{"0/1 Box(P0) 0:0 0:2 0:0 0:3", api.ErrArg, 0, 0},
	{"0/1 Box(P0) 0:0 0:2 0:0", api.OK, 0, 0},
	// orphans: the trait's home, or the data type's module
	{"0/0@1 Int", api.ErrTrait, 0, 0},
	{"2/0 Int", api.ErrTrait, 0, 0},
	{"2/0@1 Int", api.OK, 0, 0},
	{"0/0 Int; 0/0@7 Box(Int)", api.ErrTrait, 1, 1},
	{"0/2@1 D0(P0,P1)", api.OK, 0, 0},
	{"2/2@1 D0(P0,P1)", api.OK, 0, 0},
	{"2/2 D0(P0,P1)", api.ErrTrait, 0, 0},
	{"0/2@2 D0(P0,P1)", api.ErrTrait, 0, 0},
	{"2/1 D1(P0)", api.OK, 0, 0},
	{"2/0@2 D2", api.OK, 0, 0},
	{"0/1@1 P0", api.ErrTrait, 0, 0},
	{"0/0@2 Box(D2)", api.ErrTrait, 0, 0}, // only the data type itself counts
	{"0/0@1 D1(D0(Int,Int))", api.ErrTrait, 0, 0},
	{"0/0@2 D1(D2)", api.ErrTrait, 0, 0},
	// overlapping
	{"0/0 Int; 0/0 Int", api.ErrOverlap, 0, 1},
	{"0/0 D2; 0/0@2 D2", api.ErrOverlap, 0, 1},
	{"0/0 Int; 0/1 Box(P0); 0/0 Box(Int)", api.ErrOverlap, 1, 2},
	{"0/0 Int; 0/0 Box(Int); 0/1 Box(P0)", api.ErrOverlap, 1, 2},
	{"0/0 Int; 0/0 Box(Int); 0/1 P0", api.ErrOverlap, 0, 2}, // with both: the first one counts
	{"0/0 Box(Int); 0/0 Int; 0/1 P0", api.ErrOverlap, 0, 2},
	{"0/1 P0; 0/0 Int; 0/0 Box(Int)", api.ErrOverlap, 0, 1},
	{"1/0 Int; 0/0 Int; 0/0 D2; 1/0 D2; 0/0 D2", api.ErrOverlap, 2, 4},
	{"1/1 P0; 0/0 Int; 2/1@1 P0", api.OK, 0, 0},
	{"0/1 Box(P0) 0:1; 0/1 Box(P0) 0:2", api.ErrOverlap, 0, 1},
	{"0/1 D0(P0,P0); 0/0 D0(Int,D2); 0/1 D0(P0,Box(P0))", api.OK, 0, 0},
	{"0/1 D0(P0,P0); 0/0 D0(Int,D2); 0/2 D0(P0,Box(P1))", api.ErrOverlap, 0, 2},
	// errors of several kinds
	{"0/0 Int; 0/0 Int; 3/0 Int", api.ErrOverlap, 0, 1},
	{"0/0 Int; 3/0 Int; 0/0 Int", api.ErrArg, 1, 1},
	{"0/0@1 Int; 0/0@1 Int; 3/0 Int", api.ErrTrait, 0, 0},
	{"0/0@1 Arena", api.ErrArg, 0, 0},
	{"0/0@1 Int 0:0", api.ErrArg, 0, 0},
	{"0/0 Int; 0/0@1 Int", api.ErrTrait, 1, 1},
	{"0/0 Int; 0/1 Int", api.ErrArg, 1, 1},
	{"0/0 D2; 0/0 Int; 0/0@-1 Int; 0/0@1 Int", api.ErrArg, 2, 2},
}

// P6.1, P6.8: F2, by hand.
func TestCoherent(t *testing.T) {
	for _, test := range coherentTests {
		var impls []string
		if test.impls != "" {
			impls = strings.Split(test.impls, "; ")
		}
		if err, a, b := Coherent(program(impls...)); err != test.err || a != test.a || b != test.b {
			t.Errorf("%s: error %d, %d, %d", test.impls, err, a, b)
		}
	}
}

// P6.1: F2, what is not in the tables. Homes count for orphans only, and Modules not at all.
func TestCoherentTables(t *testing.T) {
	p := program("2/0@1 Int")
	p.Homes = p.Homes[:2]
	if err, a, b := Coherent(p); err != api.ErrTrait || a != 0 || b != 0 {
		t.Errorf("no home: error %d, %d, %d", err, a, b)
	}
	p.Impls[0] = impl("2/0@2 D2")
	if err, _, _ := Coherent(p); err != api.OK {
		t.Errorf("no home, but its data type: error %d", err)
	}
	p.Homes = append(p.Homes, 1, 1, 1)
	p.Impls[0] = impl("3/0@1 Int")
	if err, _, _ := Coherent(p); err != api.ErrArg {
		t.Errorf("a home without a trait: error %d", err)
	}
	p.Homes[0], p.Datas[2].Module = 70, 71
	for s, want := range map[string]api.Errno{"0/0@70 Int": api.OK, "0/0@71 D2": api.OK, "0/0@71 Int": api.ErrTrait, "0/0@2 D2": api.ErrTrait} {
		p.Impls[0] = impl(s)
		if err, _, _ := Coherent(p); err != want {
			t.Errorf("%s: error %d", s, err)
		}
	}
	p.Homes[0] = -1
	p.Impls[0] = impl("0/0@-1 Int")
	if err, _, _ := Coherent(p); err != api.ErrArg {
		t.Errorf("module -1: error %d", err)
	}
}

// selectTest is a goal, and what Select returns for it; the proof is empty if there is an error.
type selectTest struct {
	bounds, goal, proof string
	err                 api.Errno
}

// checkSelections checks what Select returns, that a selected proof is one if it has to be, and that its memory is new.
func checkSelections(t *testing.T, p api.Program, tests []selectTest) {
	t.Helper()
	for _, test := range tests {
		trait, x := readGoal(test.goal)
		got, err := Select(p, bounds(test.bounds), trait, x)
		want := test.proof
		if test.err != api.OK {
			want = "0"
		}
		if err != test.err || proofText(got) != want || err != api.OK && !isZeroProof(got) {
			t.Errorf("%s with %q: %s, error %d", test.goal, test.bounds, proofText(got), err)
		}
		checkNew(t, p, x, got)
	}
}

// P6.1: F3, by hand: bounds and implementations.
func TestSelect(t *testing.T) {
	p := program("0/0 Int", "0/1 Box(P0) 0:0", "0/2 D0(P0,P1) 1:0 0:1", "1/0 Int", "2/1@1 P0 0:0", "1/1 Chan(P0)")
	checkSelections(t, p, []selectTest{
		{"", "0 Int", "0", api.OK},
		{"", "1 Int", "3", api.OK},
		{"", "2 Int", "4[Int](0)", api.OK},
		{"", "0 Box(Box(Int))", "1[Box(Int)](1[Int](0))", api.OK},
		{"", "0 D0(Int,Box(Int))", "2[Int,Box(Int)](1[Int](0),3)", api.OK},
		{"", "0 D0(Chan(P3),Box(Int))", "2[Chan(P3),Box(Int)](1[Int](0),5[P3])", api.OK},
		{"", "2 D0(Int,Int)", "4[D0(Int,Int)](2[Int,Int](0,3))", api.OK},
		{"", "0 Chan(Int)", "", api.ErrTrait},
		{"", "0 D0(Box(Int),Int)", "", api.ErrTrait},  // a goal for a bound fails: the last one,
		{"", "0 D0(Int,Chan(Int))", "", api.ErrTrait}, // the first one,
		{"", "2 Box(Box(D2))", "", api.ErrTrait},      // one far below
		{"", "0 P0", "", api.ErrTrait},
		{"", "3 Int", "", api.ErrTrait},
		{"", "-1 Int", "", api.ErrTrait},
		// assumed bounds
		{"1:0", "0 P1", "b0", api.OK},
		{"1:0", "0 P0", "", api.ErrTrait},
		{"1:0", "1 P1", "", api.ErrTrait},
		{"0:0 1:0", "0 P1", "b1", api.OK},
		{"1:0 1:0", "0 P1", "b0", api.OK}, // several fit
		{"1:1 1:2 1:0 1:0", "0 P1", "b2", api.OK},
		{"1:0", "0 Box(P1)", "1[P1](b0)", api.OK},
		{"1:0 2:1", "0 D0(P2,Box(P1))", "2[P2,Box(P1)](1[P1](b0),b1)", api.OK},
		{"1:0", "0 D0(P1,P1)", "", api.ErrTrait},
		{"1:0 1:1", "0 D0(P1,P1)", "2[P1,P1](b0,b1)", api.OK},
		{"1:0", "2 P1", "4[P1](b0)", api.OK},
		{"1:0 1:2", "2 P1", "b1", api.OK}, // an implementation applies as well
		{"1:2 1:0", "2 P1", "b0", api.OK},
		{"1:2", "2 P1", "b0", api.OK}, // and could not be used
		{"0:0", "0 Int", "0", api.OK}, // a bound is for parameters only
		{"0:0", "0 D2", "", api.ErrTrait},
		{"0:0", "0 v0", "", api.ErrTrait},
		{"0:0", "0 Arena", "", api.ErrTrait},
		{"-1:0", "0 P-1", "b0", api.OK},
		{"9:5", "5 P9", "b0", api.OK},
		{"0:0", "0 P0(Int)", "b0", api.OK}, // a TyParam, whatever its Args are
		// types that are none
		{"", "2 Box(_)", "", api.ErrTrait},
		{"", "1 Chan(_)", "5[_]", api.OK},
		{"", "1 Chan(K10_0(Shared(v3)))", "5[K10_0(Shared(v3))]", api.OK},
		{"", "1 Chan(Int,Int)", "", api.ErrTrait},
		{"", "1 Chan1(Int)", "", api.ErrTrait},
		{"", "0 " + boxed(9, "Int"), "1[" + boxed(8, "Int") + "](" + boxProof(8) + ")", api.OK},
	})
}

// boxProof returns the proof of trait 0 for n boxes with an integer.
func boxProof(n int) string {
	if n == 0 {
		return "0"
	}
	return "1[" + boxed(n-1, "Int") + "](" + boxProof(n-1) + ")"
}

// P6.1: F3, by hand: implementations that are not coherent, or not well-formed.
func TestSelectFirst(t *testing.T) {
	p := program("0/1 Box(P0) 0:1", "0/1 P0", "0/0 Box(Int)", "1/0 D2", "0/0 Chan(Int)")
	checkSelections(t, p, []selectTest{
		{"", "0 Box(D2)", "0[D2](3)", api.OK},
		{"", "0 Box(Int)", "", api.ErrTrait}, // the first one that applies counts, though others could be used
		{"", "0 Chan(Int)", "1[Chan(Int)]", api.OK},
		{"0:0", "0 P0", "b0", api.OK},
		{"1:0", "0 P0", "1[P0]", api.OK},
	})
	p = program("0/3 D0(P1,P1) 1:1", "1/2 Int", "1/2 Chan(P1) 0:0", "0/0 _", "2/1 Int 1:0", "2/1 D2 -1:0", "2/1 Arena 0:1", "1/1 Arena", "2/1 Shared(P0) 3:1")
	checkSelections(t, p, []selectTest{
		{"", "0 D0(Int,Int)", "0[_,Int,_](1[_,_])", api.OK}, // parameters that do not occur
		{"", "0 D0(Int,D2)", "", api.ErrTrait},
		{"", "1 Chan(D2)", "2[_,D2](3)", api.OK}, // a goal with the zero type
		{"", "2 Int", "4[_](3)", api.OK},         // bounds of parameters that are none
		{"", "2 D2", "5[_](3)", api.OK},
		{"", "2 Arena", "", api.ErrTrait},
		{"", "2 Shared(Int)", "", api.ErrTrait},
		{"0:1", "2 Arena", "", api.ErrTrait}, // the zero type is no parameter
		{"0:0", "2 Shared(Int)", "", api.ErrTrait},
	})
	p = program("0/5 P0", "0/-1 Int", "0/0 P0", "0/1 Box(P1)", "0/1 Chan(P-1)", "0/1 D1(P0(Int))", "0/0 Int7(Box)", "0/0 Arena", "9/0 Int", "-4/0 Int", "0/0 "+boxed(8, "D2"))
	checkSelections(t, p, []selectTest{
		{"", "0 Int", "", api.ErrTrait}, // these apply to nothing
		{"", "0 P0", "", api.ErrTrait},
		{"", "0 Box(P1)", "", api.ErrTrait},
		{"", "0 Chan(P-1)", "", api.ErrTrait},
		{"", "0 D1(D2)", "5[D2]", api.OK}, // these apply, though they are not well-formed
		{"", "0 Int7(Box)", "6", api.OK},
		{"", "0 Arena", "7", api.OK},
		{"", "9 Int", "8", api.OK},
		{"", "-4 Int", "9", api.OK},
		{"", "0 " + boxed(8, "D2"), "10", api.OK},
		{"", "0 " + boxed(7, "D2"), "", api.ErrTrait},
	})
}

// P6.1: F3, goals that need themselves.
func TestSelectCycles(t *testing.T) {
	p := program("0/1 P0 0:1", "1/1 P0 0:2", "2/1@1 Box(P0) 0:2", "2/1@1 Chan(P0) 0:0", "2/0@1 Int", "2/2@1 D0(P0,P1) 0:0 1:1", "2/1@1 D1(P0) 0:2 0:2")
	checkSelections(t, p, []selectTest{
		{"", "0 Int", "0[Int](1[Int](4))", api.OK},
		{"", "0 Chan(Int)", "0[Chan(Int)](1[Chan(Int)](3[Int](0[Int](1[Int](4)))))", api.OK}, // the trait again, for another type
		{"", "2 D0(Int,Int)", "5[Int,Int](0[Int](1[Int](4)),1[Int](4))", api.OK},             // a goal that is needed twice
		{"", "2 D1(D1(Int))", "6[D1(Int)](6[Int](4,4),6[Int](4,4))", api.OK},
		{"0:2", "0 P0", "0[P0](1[P0](b0))", api.OK},
		{"", "0 P0", "", api.ErrTrait},
	})
	p = program("0/1 P0 0:0", "1/1 Box(P0) 0:0", "2/1@1 P0 0:1", "1/0 Int", "1/1 P0 0:2")
	checkSelections(t, p, []selectTest{
		{"", "0 Int", "", api.ErrCycle},      // directly
		{"", "1 Box(Int)", "", api.ErrCycle}, // below the goal itself
		{"", "2 D2", "", api.ErrCycle},       // through another one
		{"", "1 D2", "", api.ErrCycle},
		{"", "2 Int", "2[Int](3)", api.OK},
		{"0:0", "0 P0", "b0", api.OK}, // ended by a bound,
		{"0:1", "2 P0", "2[P0](b0)", api.OK},
		{"0:2", "1 P0", "4[P0](b0)", api.OK},
		{"0:1", "0 P0", "", api.ErrCycle}, // but not by any
		{"0:0", "0 P1", "", api.ErrCycle},
		{"0:0", "1 Box(P0)", "1[P0](b0)", api.OK},
	})
	p = program("0/1 Box(P0) 0:1 0:2", "1/1 P0 0:1", "0/1 Chan(P0) 0:2 0:1", "0/2 D0(P0,P1) 0:0 1:1", "0/0 Int")
	checkSelections(t, p, []selectTest{
		{"", "0 Box(Int)", "", api.ErrCycle}, // of two errors, the one that is met first
		{"", "0 Chan(Int)", "", api.ErrTrait},
		{"", "0 D0(D2,Int)", "", api.ErrTrait},
		{"", "0 D0(Int,D2)", "", api.ErrCycle},
	})
	zero := program("0/2 Box(P0) 1:0", "0/1 Chan(P0) 1:0", "0/1 P0 1:0") // goals with the zero type
	checkSelections(t, zero, []selectTest{{"", "0 Box(Int)", "", api.ErrCycle}, {"", "0 Chan(Int)", "", api.ErrCycle}, {"", "0 _", "", api.ErrCycle}})
}

// needing returns an implementation of trait 0 for Box(P0), with n goals of trait 0 for P0, and then others.
func needing(n int, others string) string {
	return "0/1 Box(P0) " + strings.Repeat("0:0 ", n) + others
}

// P6.1, P6.4: F3, the 400th goal and the 401st.
func TestSelectLimit(t *testing.T) {
	for _, test := range []struct {
		impl, t string
		err     api.Errno
	}{
		{needing(399, ""), "Box(Int)", api.OK}, // with itself, 400
		{needing(400, ""), "Box(Int)", api.ErrLimit},
		{needing(100000, ""), "Box(Int)", api.ErrLimit},
		{needing(19, ""), "Box(Box(Int))", api.OK}, // 1 + 19 + 361
		{needing(20, ""), "Box(Box(Int))", api.ErrLimit},
		{needing(1, ""), boxed(399, "Int"), api.OK},
		{needing(1, ""), boxed(400, "Int"), api.ErrLimit},
		{needing(2, ""), boxed(7, "Int"), api.OK}, // 255
		{needing(2, ""), boxed(8, "Int"), api.ErrLimit},
		{needing(398, "0:1"), "Box(Int)", api.ErrTrait}, // the 400th goal fails,
		{needing(399, "0:1"), "Box(Int)", api.ErrLimit}, // the 401st is too many
		{needing(0, "0:1 "+strings.Repeat("0:0 ", 500)), "Box(Int)", api.ErrTrait},
		{needing(1, ""), boxed(398, "D2"), api.OK},
		{needing(1, ""), boxed(399, "D2"), api.OK},
		{needing(1, ""), boxed(400, "D2"), api.ErrLimit},
		{needing(1, ""), boxed(399, "Arena"), api.ErrTrait},
		{needing(1, ""), boxed(400, "Arena"), api.ErrLimit},
		{needing(398, "0:2"), "Box(Int)", api.ErrTrait},
	} {
		p := program("0/0 Int", test.impl, "0/0 D2")
		x, err := Select(p, nil, 0, ty(test.t))
		if err != test.err || err != api.OK && !isZeroProof(x) || err == api.OK && !Proves(p, nil, 0, ty(test.t), x) {
			t.Errorf("%.40s for %.40s: error %d", test.impl, test.t, err)
		}
	}
	p := program(strings.Replace(needing(399, ""), "0/1 Box(P0)", "1/1 P0", 1))
	if _, err := Select(p, bounds("2:0"), 1, ty("P2")); err != api.OK { // bounds are goals, too
		t.Errorf("399 bounds: error %d", err)
	}
	p.Impls[0].Bounds = append(p.Impls[0].Bounds, api.Bound{})
	if _, err := Select(p, bounds("2:0"), 1, ty("P2")); err != api.ErrLimit {
		t.Errorf("400 bounds: error %d", err)
	}
}

// ring returns a program with n traits, each of which needs the next one, and the last one the first one.
func ring(n int) api.Program {
	var p api.Program
	for i := range n {
		p.Impls = append(p.Impls, api.Impl{Trait: i, Params: 1, Type: ty("P0"), Bounds: []api.Bound{{Trait: (i + 1) % n}}})
		p.Traits, p.Homes = append(p.Traits, "t"), append(p.Homes, 0)
	}
	return p
}

// P6.1: F3, errors at the 400th goal and at the 401st, where ErrLimit comes before the others.
func TestSelectRings(t *testing.T) {
	for _, test := range []struct {
		n                    int
		closed, broken, open api.Errno
	}{
		{1, api.ErrCycle, api.ErrTrait, api.OK},
		{2, api.ErrCycle, api.ErrTrait, api.OK},
		{399, api.ErrCycle, api.ErrTrait, api.OK},
		{400, api.ErrLimit, api.ErrTrait, api.OK},
		{401, api.ErrLimit, api.ErrLimit, api.ErrLimit},
	} {
		closed, broken, open := ring(test.n), ring(test.n), ring(test.n)
		broken.Impls = broken.Impls[:test.n-1] // the last goal fails
		open.Impls[test.n-1].Bounds = nil
		for i, p := range []api.Program{closed, broken, open} {
			want := []api.Errno{test.closed, test.broken, test.open}[i]
			if x, err := Select(p, nil, 0, ty("Box(Int)")); err != want || err != api.OK && !isZeroProof(x) {
				t.Errorf("%d traits, %d: error %d", test.n, i, err)
			}
		}
	}
}

// P6.1: F4, by hand.
func TestProves(t *testing.T) {
	p := program("0/0 Int", "0/1 Box(P0) 0:0", "0/2 D0(P0,P1) 1:0 0:1", "1/0 Int", "0/1 P0", "1/1 P0 0:1", "2/2 D0(P1,P1) 0:1 1:1", "2/1 Int 1:1", "2/0 P0 0:1", "2/1 Chan(P0(Int))", "2/1 Chan(Box(P1))")
	assume := bounds("2:0 1:1 2:0")
	for _, test := range []struct {
		goal, proof string
		want        bool
	}{
		{"0 Int", "0", true},
		{"1 Int", "3", true},
		{"0 Box(Int)", "1[Int](0)", true},
		{"0 D0(Int,Box(Int))", "2[Int,Box(Int)](1[Int](0),3)", true},
		{"0 Int", "4[Int]", true}, // proofs that are not selected
		{"0 Box(Int)", "4[Box(Int)]", true},
		{"0 Box(Int)", "1[Int](4[Int])", true},
		{"1 Int", "5[Int](5[Int](3))", true}, // the goal needs itself, but the proof ends
		{"0 P2", "b0", true},
		{"0 P2", "b2", true},
		{"0 P2", "4[P2]", true},
		{"0 Box(P2)", "1[P2](b2)", true},
		{"0 D0(P1,P2)", "2[P1,P2](b0,b1)", true},
		{"0 P2(Int)", "b0", true},
		{"2 D0(Int,Int)", "6[Int,Int](3,3)", true},
		{"2 D0(Int,Int)", "6[P1,Int](b1,3)", true}, // the first parameter does not occur
		{"2 D0(Int,Int)", "6[D2,Int](3,3)", false},
		{"2 Chan(Int)", "9[Int]", true}, // Args of a parameter do not matter
		{"2 Chan(Box(Int))", "10[Int]", false},
		{"2 Chan(Box(P1))", "10[Int]", true}, // another number stays as it is
		{"2 P0", "8(3)", false},              // no type for the parameter of the bound
		{"2 Int", "7[Int](3)", false},
		{"0 Int", "1", false}, // the goal
		{"1 Int", "0", false},
		{"2 Int", "0", false},
		{"0 D2", "0", false},
		{"1 Box(Int)", "1[Int](0)", false},
		{"0 Chan(Int)", "1[Int](0)", false},
		{"0 Box(Box(Int))", "1[Int](0)", false},
		{"0 Box(Int)", "b0", false}, // Bound
		{"0 Int", "b0", false},
		{"0 P2", "0", false},
		{"0 Box(Int)", "b1[Int](0)", false},
		{"0 Int", "-1", false}, // Index
		{"0 Int", "11", false},
		{"0 Int", "3", false},
		{"0 Box(Int)", "0[Int](0)", false},
		{"0 P2", "b-1", false},
		{"0 P2", "b3", false},
		{"0 P2", "b1", false},
		{"0 P1", "b0", false},
		{"1 P2", "b0", false},
		{"0 Box(P2)", "1[P2](b1)", false},
		{"0 Box(Int)", "1(0)", false}, // Types
		{"0 Box(Int)", "1[Int,Int](0)", false},
		{"0 Int", "0[Int]", false},
		{"0 Box(Int)", "1[D2](0)", false},
		{"0 Box(Int)", "1[Box(Int)](0)", false},
		{"0 Box(Int)", "1[_](0)", false},
		{"0 Box(Int)", "1[P0](0)", false},
		{"0 D0(Int,Box(Int))", "2[Box(Int),Int](1[Int](0),3)", false},
		{"0 Box(Int)", "1[Int]", false}, // From
		{"0 Box(Int)", "1[Int](0,0)", false},
		{"0 Int", "0(0)", false},
		{"0 Box(Int)", "1[Int](3)", false},
		{"0 D0(Int,Box(Int))", "2[Int,Box(Int)](3,1[Int](0))", false},
		{"0 D0(Int,Box(Int))", "2[Int,Box(Int)](1[Int](3),3)", false},
		{"0 P2", "b0[Int]", false}, // of a proof by a bound
		{"0 P2", "b0(0)", false},
		{"0 P2", "b0(b0)", false},
		{"0 P2", "b0[P2](b0)", false},
	} {
		trait, x := readGoal(test.goal)
		if got := Proves(p, assume, trait, x, proof(test.proof)); got != test.want {
			t.Errorf("%s of %s: %v", test.proof, test.goal, got)
		}
	}
	if Proves(p, nil, 0, ty("P2"), proof("b0")) {
		t.Error("a bound that is not assumed")
	}
	for _, n := range []int{math.MinInt, math.MaxInt} {
		if Proves(p, assume, 0, ty("Int"), api.Proof{Index: n}) || Proves(p, assume, 0, ty("P2"), api.Proof{Bound: true, Index: n}) {
			t.Error(n)
		}
	}
}

// P6.1: F4, a proof may have more than 400 proofs in it, and implementations more than 4 parameters.
func TestProvesLarge(t *testing.T) {
	p := program("0/0 Int", needing(500, ""), "1/5 D4(P0,P1,P2,P3,P4) 4:0", "1/0@1 Int", "1/1 P0 0:1")
	x := api.Proof{Index: 1, Types: types("Int"), From: make([]api.Proof, 500)}
	if !Proves(p, nil, 0, ty("Box(Int)"), x) {
		t.Error("500 bounds")
	}
	if five := proof("2[Int,D2,D2,D2,Box(Int)](1[Int](" + strings.TrimSuffix(strings.Repeat("0,", 500), ",") + "))"); !Proves(p, nil, 1, ty("D4(Int,D2,D2,D2,Box(Int))"), five) {
		t.Error("5 parameters")
	}
	long := proof("3")
	for range 1000 {
		long = api.Proof{Index: 4, Types: types("Int"), From: []api.Proof{long}}
	}
	if !Proves(p, nil, 1, ty("Int"), long) {
		t.Error("1001 proofs")
	}
	slices.Reverse(p.Impls)
	if Proves(p, nil, 1, ty("Int"), long) {
		t.Error("other implementations")
	}
}
