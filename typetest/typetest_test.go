package typetest

import (
	"slices"
	"strings"
	"testing"

	"leasehold/api"
)

func TestTexts(t *testing.T) {
	for _, s := range strings.Fields("_ Int Int7 D0 D-1(P0,v12(_)) Box(Box(Int),_) K-3_5(K0_1,K10_0(Int)) Shared(Arena) Excl2(Chan(P3)) " + Boxed(9, "v0")) {
		if got := Text(Read(s)); got != s {
			t.Errorf("%s became %s", s, got)
		}
	}
	pair := api.Type{Kind: api.TyData, Id: 1, Args: []api.Type{{Kind: api.TyVar}, {Kind: api.TyBox, Args: []api.Type{{Kind: api.TyParam, Id: 2}}}}}
	if got := Text(pair); got != "D1(v0,Box(P2))" {
		t.Error(got)
	}
	if got := Texts(ReadAll(" Int  D1(v0,Box(P2)) _ ")); !slices.Equal(got, []string{"Int", "D1(v0,Box(P2))", "_"}) {
		t.Error(got)
	}
}

func TestNesting(t *testing.T) {
	for s, want := range map[string]int{"Int": 1, "Box(Int)": 2, "D0(Box(Int),Int)": 3, "D0(Int,D1(Int,Box(P0)),P1)": 4, Boxed(8, "_"): 9} {
		if got := Nesting(s); got != want {
			t.Errorf("%s: %d", s, got)
		}
	}
}

func TestNoText(t *testing.T) {
	for _, s := range []string{"", "Bool", "Box(Bool)", "P1x", "D1-2"} {
		func() {
			defer func() {
				if recover() == nil {
					t.Errorf("%q was read", s)
				}
			}()
			Read(s)
		}()
	}
}

func TestLists(t *testing.T) {
	for n, want := range map[int][]string{-1: {""}, 0: {""}, 1: {"Int", "D2"}, 2: {"Int Int", "Int D2", "D2 Int", "D2 D2"}} {
		var got []string
		Lists(n, ReadAll("Int D2"), func(l []api.Type) { got = append(got, strings.Join(Texts(l), " ")) })
		if !slices.Equal(got, want) {
			t.Errorf("%d: %q", n, got)
		}
	}
}
