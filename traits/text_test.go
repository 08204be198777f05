package traits

import (
	"fmt"
	"strconv"
	"strings"
	"testing"

	"leasehold/api"
	"leasehold/typetest"
)

// The tests write types as texts, as package typetest says, and so what has types in it:
//   - a bound is 1:2, its Param and its Trait;
//   - an implementation is 0/2@1 D0(P0,P1) 0:0 1:2, its Trait, its Params, its Module (left out if it is 0), its Type and its Bounds;
//   - a goal is 0 Box(Int), its trait and its type;
//   - a proof is b0, with the index of an assumed bound, or 2[Int,P1](b0,0), with the index of an implementation, the Types, and the proofs for its bounds.
var (
	lists          = typetest.Lists
	text, texts    = typetest.Text, typetest.Texts
	ty, types      = typetest.Read, typetest.ReadAll
	boxed, nesting = typetest.Boxed, typetest.Nesting
	number         = typetest.Number
)

func bounds(s string) []api.Bound {
	var l []api.Bound
	for _, word := range strings.Fields(s) {
		param, trait, _ := strings.Cut(word, ":")
		l = append(l, api.Bound{Param: number(param), Trait: number(trait)})
	}
	return l
}

func boundTexts(l []api.Bound) string {
	var words []string
	for _, b := range l {
		words = append(words, fmt.Sprint(b.Param, ":", b.Trait))
	}
	return strings.Join(words, " ")
}

func impl(s string) api.Impl {
	words := strings.SplitN(s, " ", 3)
	head, module, _ := strings.Cut(words[0], "@")
	trait, params, _ := strings.Cut(head, "/")
	m := api.Impl{Trait: number(trait), Module: number(module), Params: number(params), Type: ty(words[1])}
	if len(words) == 3 {
		m.Bounds = bounds(words[2])
	}
	return m
}

func implText(m api.Impl) string {
	s := fmt.Sprint(m.Trait, "/", m.Params)
	if m.Module != 0 {
		s += fmt.Sprint("@", m.Module)
	}
	return strings.TrimSpace(s + " " + text(m.Type) + " " + boundTexts(m.Bounds))
}

// program returns a program with implementations, and with the traits 0, 1 and 2, the last of them of module 1; with the data types D0 of module 1, with two parameters, D1 of module 0, with one, and D2 of module 2.
func program(impls ...string) api.Program {
	p := api.Program{
		Modules: []string{"a", "b", "c"},
		Datas:   []api.Data{{Name: "Pair", Module: 1, Params: 2}, {Name: "List", Params: 1}, {Name: "Unit", Module: 2}},
		Traits:  []string{"Show", "Less", "Hash"},
		Homes:   []int{0, 0, 1},
	}
	for _, s := range impls {
		p.Impls = append(p.Impls, impl(s))
	}
	return p
}

func implTexts(p api.Program) string {
	var l []string
	for _, m := range p.Impls {
		l = append(l, implText(m))
	}
	return strings.Join(l, "; ")
}

func readGoal(s string) (int, api.Type) {
	trait, t, _ := strings.Cut(s, " ")
	return number(trait), ty(t)
}

func goalText(trait int, t api.Type) string { return fmt.Sprint(trait, " ", text(t)) }

func proofText(x api.Proof) string {
	s := strconv.Itoa(x.Index)
	if x.Bound {
		s = "b" + s
	}
	if len(x.Types) > 0 {
		s += "[" + strings.Join(texts(x.Types), ",") + "]"
	}
	if len(x.From) > 0 {
		var from []string
		for _, f := range x.From {
			from = append(from, proofText(f))
		}
		s += "(" + strings.Join(from, ",") + ")"
	}
	return s
}

func proof(s string) api.Proof {
	x, rest := proofAt(s)
	if rest != "" {
		panic("no proof: " + s)
	}
	return x
}

// proofAt reads the proof at the beginning of a text, and returns what follows.
func proofAt(s string) (x api.Proof, rest string) {
	s, x.Bound = strings.CutPrefix(s, "b")
	end := typetest.NameEnd(s, 0)
	x.Index, s = number(s[:end]), s[end:]
	if strings.HasPrefix(s, "[") {
		for s[0] != ']' {
			end := typetest.TermEnd(s, 1)
			x.Types = append(x.Types, ty(s[1:end]))
			s = s[end:]
		}
		s = s[1:]
	}
	if strings.HasPrefix(s, "(") {
		for s[0] != ')' {
			var from api.Proof
			from, s = proofAt(s[1:])
			x.From = append(x.From, from)
		}
		s = s[1:]
	}
	return x, s
}

func isZeroProof(x api.Proof) bool {
	return !x.Bound && x.Index == 0 && len(x.Types) == 0 && len(x.From) == 0
}

func TestTexts(t *testing.T) {
	for _, s := range []string{"0/0 Int", "2/2@1 D0(P0,P1) 0:0 1:2", "-1/5@-2 _ -1:-3", "0/0 D1(Int,Box(Int)) 4:4"} {
		if got := implText(impl(s)); got != s {
			t.Errorf("%s became %s", s, got)
		}
	}
	for _, s := range []string{"0", "b3", "2[Int,Box(P1)]", "1(0,b1)", "3[D0(Int,P0),_](b0,2[Int](0(0,0),1),-1)", "b1[Int](0)"} {
		if got := proofText(proof(s)); got != s {
			t.Errorf("%s became %s", s, got)
		}
	}
	if got := goalText(readGoal("2 D0(Int,P1)")); got != "2 D0(Int,P1)" {
		t.Error(got)
	}
}
