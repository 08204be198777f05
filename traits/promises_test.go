package traits

import (
	"cmp"
	"fmt"
	"maps"
	"math/rand/v2"
	"slices"
	"strings"
	"testing"

	"leasehold/api"
	"leasehold/unify"
)

// few checks that each outcome of a test was there often enough.
func few[K comparable](t *testing.T, count map[K]int, least int, outcomes ...K) {
	t.Helper()
	for _, x := range outcomes {
		if count[x] < least {
			t.Errorf("only %d cases of %v, of %v", count[x], x, count)
		}
	}
}

// P6.1, P6.2: all pairs of small implementations.
func TestAllOverlaps(t *testing.T) {
	small := types("Int P0 P1")
	for range 2 {
		before := small
		for _, x := range before {
			small = append(small, api.Type{Kind: api.TyBox, Args: []api.Type{x}})
		}
		lists(2, before[:min(len(before), 9)], func(l []api.Type) { small = append(small, api.Type{Kind: api.TyData, Args: l}) })
	}
	count := map[bool]int{}
	for _, a := range small {
		for _, b := range small {
			count[checkOverlap(t, api.Impl{Params: 2, Type: a}, api.Impl{Params: 2, Type: b})]++
		}
	}
	few(t, count, 1000, true, false)
}

// P6.1, P6.2: random pairs, of which some have types that are too deep when they are unified.
func TestRandomOverlaps(t *testing.T) {
	m := seeded(1)
	count := map[string]int{}
	for range 60000 {
		x := m.stored(0, m.one(2, 3, 4, 8))
		if m.IntN(2) == 0 {
			x = ty(boxed(max(0, m.one(7, 8, 9)-nesting(text(x))), text(x)))
		}
		a, b := m.generalised(0, x), m.generalised(m.one(0, 0, 0, 0, 0, 0, 0, 1), x)
		switch m.IntN(5) {
		case 0:
			b.Type = m.changed(b.Type)
		case 1:
			a = m.spoiled(a)
		case 2:
			a, b = m.impl(4), m.impl(4)
		}
		switch {
		case checkOverlap(t, a, b):
			count["overlap"]++
		case a.Trait == b.Trait && describeGeneral(a) && describeGeneral(b):
			count["none"]++
		default:
			count["wrong"]++
		}
	}
	few(t, count, 1000, "overlap", "none", "wrong")
}

// P6.2: two implementations that apply to one type overlap; a well-formed one overlaps with itself.
func TestCommonTypes(t *testing.T) {
	m := seeded(2)
	deepest := 0
	for range 30000 {
		x := m.stored(0, 5)
		if m.IntN(2) == 0 {
			x = ty(boxed(8-nesting(text(x)), text(x)))
		}
		if nesting(text(x)) == 8 {
			deepest++
		}
		a, b := m.generalised(1, x), m.generalised(1, x)
		for _, y := range []api.Impl{a, b} {
			if _, ok := unify.Match(y.Type, x, y.Params); !ok {
				t.Fatalf("%s does not apply to %s", implText(y), text(x))
			}
		}
		if !Overlap(a, b) || !Overlap(b, a) {
			t.Fatalf("%s and %s apply to %s", implText(a), implText(b), text(x))
		}
		if y := m.impl(4); !Overlap(y, y) {
			t.Fatalf("%s does not overlap with itself", implText(y))
		}
	}
	if deepest < 1000 {
		t.Errorf("only %d types of depth 8", deepest)
	}
}

// P6.1, P6.8: random programs, coherent or not, with implementations that are wrong in one part.
func TestRandomCoherent(t *testing.T) {
	m := seeded(3)
	count := map[api.Errno]int{}
	for range 30000 {
		p := m.coherent(m.IntN(6), 3)
		for range m.one(0, 1, 1, 2) {
			p.Impls = slices.Insert(slices.Clone(p.Impls), m.IntN(len(p.Impls)+1), m.impl(3))
		}
		if i := m.IntN(12); i < len(p.Impls) {
			p.Impls = slices.Clone(p.Impls)
			p.Impls[i] = m.spoiled(p.Impls[i])
		}
		if m.IntN(20) == 0 {
			p.Homes = p.Homes[:m.IntN(3)]
		}
		count[checkCoherent(t, p)]++
	}
	few(t, count, 500, api.OK, api.ErrArg, api.ErrTrait, api.ErrOverlap)
}

// P6.8: at most one implementation of a trait of a coherent program applies to a type of a depth of at most 8.
func TestAtMostOne(t *testing.T) {
	m := seeded(4)
	count := map[int]int{}
	for range 20000 {
		p := m.coherent(8, 3)
		if err, _, _ := Coherent(p); err != api.OK {
			t.Fatalf("%s: error %d", implTexts(p), err)
		}
		x := m.instance(p, 4, 3)
		if nesting(text(x)) > 8 {
			continue
		}
		for trait := range 3 {
			applying := 0
			for _, y := range p.Impls {
				if _, ok := unify.Match(y.Type, x, y.Params); ok && y.Trait == trait {
					applying++
				}
			}
			count[applying]++
			if applying > 1 {
				t.Fatalf("%s: %d implementations of %d apply to %s", implTexts(p), applying, trait, text(x))
			}
		}
	}
	few(t, count, 1000, 0, 1)
}

// P6.1, P6.3: random goals of any programs.
func TestRandomSelections(t *testing.T) {
	m := seeded(5)
	count := map[api.Errno]int{}
	for range 40000 {
		p := m.program(m.one(2, 6, 12), m.one(1, 3))
		spoiled := m.IntN(3) == 0 && len(p.Impls) > 0
		if spoiled {
			i := m.IntN(len(p.Impls))
			p.Impls[i] = m.spoiled(p.Impls[i])
		}
		x, trait, assume := m.instance(p, 4, m.one(1, 2, 3, 6)), m.IntN(3), m.assumed()
		if m.IntN(10) == 0 {
			x = m.changed(x)
		}
		got, err := checkSelect(t, p, assume, trait, x)
		count[err]++
		if err == api.OK && !spoiled && !Proves(p, assume, trait, x, got) {
			t.Fatalf("%s with %s: %s is no proof of %s", implTexts(p), boundTexts(assume), proofText(got), goalText(trait, x))
		}
		checkProves(t, p, assume, trait, x, m.anyProof(p, got))
	}
	few(t, count, 1000, api.OK, api.ErrTrait)
	few(t, count, 50, api.ErrCycle)
}

// P6.1, P6.3: as many goals as may be, and more.
func TestManyGoals(t *testing.T) {
	m := seeded(6)
	count := map[api.Errno]int{}
	nearly := 0
	for range 3000 {
		p, trait, x := m.crowded(1, 1, 2, 2, 3, 4, 6, 19, 20), m.IntN(3), m.crowd(0, 6)
		got, err := checkSelect(t, p, nil, trait, x)
		count[err]++
		if n := len(stepsOf(got)); n > 200 {
			nearly++
		}
		if err == api.OK && !Proves(p, nil, trait, x, got) {
			t.Fatalf("%s: %s is no proof for %s", implTexts(p), proofText(got), text(x))
		}
	}
	few(t, count, 200, api.OK, api.ErrTrait, api.ErrLimit)
	if nearly < 50 {
		t.Errorf("only %d proofs of more than 200 steps", nearly)
	}
}

// P6.4, P6.5: in coherent programs, goals that have a proof have a selected one, and without assumed bounds only this one.
func TestCompleteness(t *testing.T) {
	m := seeded(7)
	some := types("Int D2 P0 P1 Box(Int) Box(P0) Chan(D2) Box(Box(P1)) D1(P0)")
	goals, several := 0, 0
	for range 1500 {
		p, assume := m.coherent(8, 2), m.assumed()
		if m.IntN(3) == 0 {
			assume = nil
		}
		for goal, all := range describeProofs(p, assume, some, 4, 2) {
			goals++
			trait, x := readGoal(goal)
			got, err := checkSelect(t, p, assume, trait, x)
			if err != api.OK {
				t.Fatalf("%s with %s: error %d for %s, of which %v are proofs", implTexts(p), boundTexts(assume), err, goal, slices.Sorted(maps.Keys(all)))
			}
			if len(assume) == 0 && (len(all) != 1 || !all[proofText(got)]) {
				t.Fatalf("%s: %s has the proofs %v, selected is %s", implTexts(p), goal, slices.Sorted(maps.Keys(all)), proofText(got))
			}
			if len(all) > 1 {
				several++
			}
		}
	}
	if goals < 10000 || several < 100 {
		t.Errorf("only %d goals, %d with several proofs", goals, several)
	}
}

// changedProofs returns the proofs that differ from a proof in one part: another value of it, or one that is too few or too many.
func changedProofs(x api.Proof, some []api.Type, others []api.Proof) []api.Proof {
	var l []api.Proof
	add := func(change func(*api.Proof)) {
		c := api.Proof{Bound: x.Bound, Index: x.Index, Types: slices.Clone(x.Types), From: slices.Clone(x.From)}
		change(&c)
		l = append(l, c)
	}
	add(func(c *api.Proof) { c.Bound = !c.Bound })
	for i := -1; i < 8; i++ {
		add(func(c *api.Proof) { c.Index = i })
	}
	for i := range x.Types {
		add(func(c *api.Proof) { c.Types = slices.Delete(c.Types, i, i+1) })
		for _, t := range some {
			add(func(c *api.Proof) { c.Types[i] = t })
		}
	}
	for i, f := range x.From {
		add(func(c *api.Proof) { c.From = slices.Delete(c.From, i, i+1) })
		for _, other := range append(changedProofs(f, some, nil), others...) {
			add(func(c *api.Proof) { c.From[i] = other })
		}
	}
	add(func(c *api.Proof) { c.Types = append(c.Types, some[0]) })
	add(func(c *api.Proof) { c.From = append(c.From, api.Proof{}) })
	return l
}

// known returns the proofs of all goals.
func known(l proofs) []api.Proof {
	var all []api.Proof
	for _, goal := range slices.Sorted(maps.Keys(l)) {
		for _, s := range slices.Sorted(maps.Keys(l[goal])) {
			all = append(all, proof(s))
		}
	}
	return all
}

// P6.1: F4: exactly the proofs that are found from those for the bounds upwards are proofs, among them and all that differ from one of them in one part.
func TestAllProofs(t *testing.T) {
	some := types("Int P0 Box(Int) Box(P0) D2")
	count := map[bool]int{}
	for _, test := range []struct{ impls, assume string }{
		{"0/0 Int; 0/1 Box(P0) 0:0; 1/1 P0 0:0", ""},
		{"0/0 Int; 0/1 Box(P0) 0:0; 0/1 P0; 1/0 D2", "0:0 0:1"},
		{"0/0 Int; 0/2 D0(P0,P1) 1:0 0:1; 1/1 P0 0:0; 1/0 Int", "0:0 1:1"},
		{"0/1 P0 0:1; 1/1 P0 0:0; 1/0 Int", "0:1 0:1"},
		{"0/2 P0 1:1; 1/0 D2; 1/0 Int", ""},
		{"0/1 Box(P0) 0:0 0:0; 0/1 P0; 1/2 D0(P0,P1) 0:0 1:0 0:1; 1/0 Int; 1/0 Box(Int)", "0:0"},
	} {
		p, assume := program(strings.Split(test.impls, "; ")...), bounds(test.assume)
		all := describeProofs(p, assume, some, 3, 1000)
		candidates := map[string]api.Proof{}
		others := known(describeProofs(p, assume, some, 1, 1000))
		for _, x := range known(describeProofs(p, assume, some, 2, 1000)) {
			for _, y := range changedProofs(x, some, others) {
				candidates[proofText(y)] = y
			}
		}
		for _, x := range known(all) {
			candidates[proofText(x)] = x
		}
		for _, goal := range append(slices.Sorted(maps.Keys(all)), "0 D2", "1 Chan(Int)", "2 Int", "0 P1") {
			trait, x := readGoal(goal)
			for s, y := range candidates {
				got := Proves(p, assume, trait, x, y)
				if got != all[goal][s] {
					t.Fatalf("%s with %s: %s of %s: %v", test.impls, test.assume, s, goal, got)
				}
				count[got]++
			}
		}
	}
	few(t, count, 100, true, false)
}

// byBounds returns in how many places of a proof an assumed bound is used.
func byBounds(x api.Proof) int {
	n := 0
	if x.Bound {
		n++
	}
	for _, f := range x.From {
		n += byBounds(f)
	}
	return n
}

// P6.6: with more bounds, at any places of the list, a goal still has a selected proof.
func TestMoreBounds(t *testing.T) {
	m := seeded(8)
	count := map[int]int{}
	for range 20000 {
		p, assume := m.program(8, 3), m.assumed()
		x, trait := m.instance(p, 4, 3), m.IntN(3)
		if m.IntN(2) == 0 {
			p, x, assume = m.crowded(1, 2), m.crowd(2, 2), bounds("0:0 1:0 1:1 0:1")
		}
		before, err := Select(p, assume, trait, x)
		if err != api.OK {
			continue
		}
		for range 1 + m.IntN(4) {
			assume = slices.Insert(assume, m.IntN(len(assume)+1), api.Bound{Param: m.IntN(2), Trait: m.one(0, 1, 2, 2)})
		}
		after, err := checkSelect(t, p, assume, trait, x)
		if err != api.OK {
			t.Fatalf("%s with %s: error %d for %s", implTexts(p), boundTexts(assume), err, goalText(trait, x))
		}
		count[cmp.Compare(len(stepsOf(after)), len(stepsOf(before)))]++
	}
	few(t, count, 300, -1, 0)
}

// P6.7: types that implement what is assumed take the place of the parameters.
func TestReplacing(t *testing.T) {
	m := seeded(9)
	count := map[string]int{}
	for range 20000 {
		p, assume := m.coherent(8, 3), m.assumed()
		x, trait := m.instance(p, 4, 2), m.IntN(3)
		if m.IntN(2) == 0 {
			p, x = m.crowded(1, 2), m.crowd(4, 3)
			checkCoherent(t, p)
		}
		proof, err := Select(p, assume, trait, x)
		if err != api.OK {
			continue
		}
		args, ok := m.implementing(p, assume)
		replaced := unify.Subst(args, x)
		if !ok || nesting(text(replaced)) > 8 {
			count["none"]++
			continue
		}
		_, err = checkSelect(t, p, nil, trait, replaced)
		if err != api.OK && err != api.ErrLimit {
			t.Fatalf("%s with %s: %s has a proof, %s has error %d", implTexts(p), boundTexts(assume), goalText(trait, x), text(replaced), err)
		}
		count[fmt.Sprint(min(byBounds(proof), 2))]++
	}
	few(t, count, 300, "0", "1", "2")
}

// implementing makes types for all parameters, which have proofs for the traits of bounds without any bounds, and says whether there are some.
func (m maker) implementing(p api.Program, assume []api.Bound) ([]api.Type, bool) {
	var args []api.Type
	for i := range api.MaxParams {
		lacks := func(t api.Type) bool {
			return slices.ContainsFunc(assume, func(b api.Bound) bool {
				_, err := Select(p, nil, b.Trait, t)
				return b.Param == i && err != api.OK
			})
		}
		t := m.instance(p, 4, 2)
		for range 10 {
			if lacks(t) {
				t = m.instance(p, 4, 2)
			}
		}
		if lacks(t) {
			return nil, false
		}
		args = append(args, t)
	}
	return args, true
}

// FuzzSelect makes programs and goals from random numbers.
func FuzzSelect(f *testing.F) {
	for n := range uint64(20) {
		f.Add(n, n)
	}
	f.Fuzz(func(t *testing.T, a, b uint64) {
		m := maker{rand.New(rand.NewPCG(a, b))}
		p := m.program(8, 4)
		if len(p.Impls) > 0 && m.IntN(3) == 0 {
			p.Impls[0] = m.spoiled(p.Impls[0])
		}
		checkCoherent(t, p)
		checkSelect(t, p, m.assumed(), m.IntN(3), m.instance(p, 4, 4))
		checkOverlap(t, m.spoiled(m.impl(4)), m.impl(4))
	})
}
