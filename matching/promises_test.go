package matching

import (
	"slices"
	"strings"
	"testing"

	"leasehold/api"
	"leasehold/unify"
)

// few checks that each outcome of a test was there often enough.
func few[K comparable](t *testing.T, count map[K]int, least int, outcomes ...K) {
	t.Helper()
	for _, x := range outcomes {
		if count[x] < least {
			t.Errorf("only %d cases of %v, of %v", count[x], x, count)
		}
	}
}

// lists calls a function with each list of at most n of some patterns.
func lists(n int, of []api.Pattern, f func([]api.Pattern)) {
	var extend func(l []api.Pattern)
	extend = func(l []api.Pattern) {
		f(l)
		for _, x := range of {
			if len(l) < n {
				extend(append(slices.Clip(l), x))
			}
		}
	}
	extend(nil)
}

// allPatterns returns all patterns that are right for a type, with as many levels.
func allPatterns(d []api.Data, t api.Type, levels int) []api.Pattern {
	all := []api.Pattern{{Variant: -1}}
	if t.Kind != api.TyData || levels == 0 {
		return all
	}
	for v, variant := range d[t.Id].Variants {
		heads := []api.Pattern{{Variant: v}}
		for _, field := range variant.Fields {
			heads = withFields(heads, allPatterns(d, unify.Subst(t.Args, field), levels-1))
		}
		all = append(all, heads...)
	}
	return all
}

func withFields(heads, fields []api.Pattern) []api.Pattern {
	var all []api.Pattern
	for _, x := range heads {
		for _, field := range fields {
			all = append(all, api.Pattern{Variant: x.Variant, Fields: append(slices.Clip(x.Fields), field)})
		}
	}
	return all
}

// allValues returns all values of a type, as far as patterns with as many levels tell them from each other: one value stands for all that are deeper, and for those of a type that no pattern looks into, even if it has none.
func allValues(d []api.Data, t api.Type, levels int) []api.Value {
	if t.Kind != api.TyData || levels == 0 || len(d[t.Id].Variants) == 0 {
		return []api.Value{{Kind: api.ValInt, N: levels}}
	}
	var all []api.Value
	for v, variant := range d[t.Id].Variants {
		values := []api.Value{{Kind: api.ValData, Id: t.Id, Variant: v}}
		for _, field := range variant.Fields {
			var longer []api.Value
			for _, x := range values {
				for _, y := range allValues(d, unify.Subst(t.Args, field), levels-1) {
					longer = append(longer, api.Value{Kind: x.Kind, Id: x.Id, Variant: x.Variant, Fields: append(slices.Clip(x.Fields), y)})
				}
			}
			values = longer
		}
		all = append(all, values...)
	}
	return all
}

// P8.1: all lists of few patterns for small types.
func TestAllLists(t *testing.T) {
	d, count := program(), map[string]int{}
	for _, test := range []struct {
		t           string
		levels, few int
	}{{"D1", 1, 6}, {"D5", 1, 5}, {"D0(D1)", 2, 5}, {"D0(D5)", 2, 4}, {"D0(D0(D1))", 3, 4}, {"D2(D1,D1)", 2, 4}, {"D2(D5,D1)", 2, 3}, {"D2(Int,D0(D1))", 3, 5}, {"D0(D3)", 2, 6}, {"D4", 2, 4}, {"D2(D2(D1,D1),D1)", 3, 3}, {"D2(D0(D1),D0(D1))", 3, 2}} {
		lists(test.few, allPatterns(d, ty(test.t), test.levels), func(l []api.Pattern) {
			found, useless := check(t, d, test.t, l)
			count[found]++
			if len(useless) > 0 {
				count["useless"]++
			}
		})
	}
	few(t, count, 1000, "none", "useless", "0(0,0)")
	few(t, count, 10, "_", "0(_,0)", "0", "1", "2", "1(_)", "1(0)", "1(1)", "0(0,_)", "0(1,1)", "0(_,1(1))", "0(0(1,_),1)", "1(1,0)")
}

// P8.1: random types and patterns; some patterns are not right.
func TestRandomLists(t *testing.T) {
	m, count := seeded(1), map[string]int{}
	for range 40000 {
		d := m.datas()
		of := m.typ(d, 0, 3)
		l := m.list(d, of, m.IntN(7))
		if i := m.IntN(3 * (len(l) + 1)); i < len(l) {
			l[i] = m.spoiled(l[i])
		}
		found, useless := check(t, d, typeText(of), l)
		switch {
		case !describeAllRight(d, typeText(of), patternTexts(l)):
			count["not right"]++
		case found == "none":
			count["none"]++
		case strings.Contains(found, "("):
			count["deep"]++
		default:
			count["missing"]++
		}
		if len(useless) > 0 {
			count["useless"]++
		}
	}
	few(t, count, 1000, "not right", "none", "missing", "deep", "useless")
}

// matched returns which values some pattern of a list matches.
func matched(l []api.Pattern, values []api.Value) []bool {
	var all []bool
	for _, v := range values {
		all = append(all, slices.ContainsFunc(l, func(x api.Pattern) bool { return Matches(x, v) }))
	}
	return all
}

// cases calls a function with random patterns, the type for which they are right, and its values, unless they are very many.
func cases(m maker, n int, f func(d []api.Data, t api.Type, l []api.Pattern, values []api.Value)) {
	for range n {
		d := m.datas()
		t := m.typ(d, 0, 2)
		for tries := 0; tries < 9 && len(allPatterns(d, t, 1)) < 3; tries++ {
			t = m.typ(d, 0, 2)
		}
		if size(d, t, 3) < 400 {
			f(d, t, m.list(d, t, m.IntN(9)), allValues(d, t, 3))
		}
	}
}

// size returns how many values allValues has for a type; a great number if they are more.
func size(d []api.Data, t api.Type, levels int) int {
	const great = 1 << 20
	if t.Kind != api.TyData || levels == 0 || len(d[t.Id].Variants) == 0 {
		return 1
	}
	sum := 0
	for _, v := range d[t.Id].Variants {
		product := 1
		for _, field := range v.Fields {
			product = min(great, product*size(d, unify.Subst(t.Args, field), levels-1))
		}
		sum = min(great, sum+product)
	}
	return sum
}

// P8.2, P8.3: none is missing exactly if each value is matched; otherwise the missing one is right, and matches only values that no other pattern matches.
func TestMissing(t *testing.T) {
	count := map[bool]int{}
	cases(seeded(2), 12000, func(d []api.Data, of api.Type, l []api.Pattern, values []api.Value) {
		x, ok := Missing(d, of, l)
		count[ok]++
		all := matched(l, values)
		if ok != slices.Contains(all, false) {
			t.Fatalf("%q, %s, %q: missing: %t", dataTexts(d), typeText(of), patternTexts(l), ok)
		}
		if !ok {
			return
		}
		own := matched([]api.Pattern{x}, values)
		if !describeRight(d, typeText(of), patternText(x)) || !slices.Contains(own, true) {
			t.Fatalf("%q, %s: %s", dataTexts(d), typeText(of), patternText(x))
		}
		for i := range values {
			if own[i] && all[i] {
				t.Fatalf("%q, %s, %q: %s is missing, but %v is matched", dataTexts(d), typeText(of), patternTexts(l), patternText(x), values[i])
			}
		}
	})
	few(t, count, 1000, true, false)
}

// P8.4: a pattern is useless exactly if each value that it matches is matched by one before it; without the useless ones, the same values are matched.
func TestUselessValues(t *testing.T) {
	count := map[bool]int{}
	cases(seeded(3), 12000, func(d []api.Data, of api.Type, l []api.Pattern, values []api.Value) {
		useless := Useless(d, of, l)
		var useful []api.Pattern
		for i, x := range l {
			own, before := matched([]api.Pattern{x}, values), matched(l[:i], values)
			covered := true
			for j := range values {
				covered = covered && (!own[j] || before[j])
			}
			count[covered]++
			if covered != slices.Contains(useless, i) {
				t.Fatalf("%q, %s, %q: %d are useless, of which %d: %t", dataTexts(d), typeText(of), patternTexts(l), useless, i, covered)
			}
			if !covered {
				useful = append(useful, x)
			}
		}
		if !slices.IsSorted(useless) || !slices.Equal(matched(useful, values), matched(l, values)) || len(Useless(d, of, useful)) > 0 {
			t.Fatalf("%q, %s, %q: %d are useless", dataTexts(d), typeText(of), patternTexts(l), useless)
		}
	})
	few(t, count, 10000, true, false)
}

// P8.5: with a pattern for any value at the end, none is missing; it is useless exactly if none was missing without it.
func TestAnyValueAtTheEnd(t *testing.T) {
	count := map[bool]int{}
	cases(seeded(4), 10000, func(d []api.Data, of api.Type, l []api.Pattern, _ []api.Value) {
		_, ok := Missing(d, of, l)
		count[ok]++
		longer := append(slices.Clone(l), api.Pattern{Variant: -1})
		if got := foundText(Missing(d, of, longer)); got != "none" || slices.Contains(Useless(d, of, longer), len(l)) == ok {
			t.Fatalf("%q, %s, %q: %s", dataTexts(d), typeText(of), patternTexts(longer), got)
		}
	})
	few(t, count, 1000, true, false)
}

// P8.6: the order of a list, and patterns that occur twice, make no difference to what is missing.
func TestOrder(t *testing.T) {
	m, count := seeded(5), map[bool]int{}
	cases(m, 10000, func(d []api.Data, of api.Type, l []api.Pattern, _ []api.Value) {
		x, ok := Missing(d, of, l)
		count[ok]++
		other := slices.Clone(l)
		for range m.IntN(4) {
			if len(l) > 0 {
				other = append(other, l[m.IntN(len(l))])
			}
		}
		m.Shuffle(len(other), func(i, j int) { other[i], other[j] = other[j], other[i] })
		if got := foundText(Missing(d, of, other)); got != foundText(x, ok) {
			t.Fatalf("%q, %s, %q: %s, but with %q: %s", dataTexts(d), typeText(of), patternTexts(l), foundText(x, ok), patternTexts(other), got)
		}
		if twice := Useless(d, of, slices.Concat(l, l)); len(twice) < len(l) || !slices.Equal(twice[len(twice)-len(l):], numbersFrom(len(l), len(l))) {
			t.Fatalf("%q, %s, %q: twice: %d", dataTexts(d), typeText(of), patternTexts(l), twice)
		}
	})
	few(t, count, 1000, true, false)
}

// numbersFrom returns n numbers from a first one on.
func numbersFrom(first, n int) []int {
	var l []int
	for i := range n {
		l = append(l, first+i)
	}
	return l
}

// P8.1: Matches against the description.
func TestRandomMatches(t *testing.T) {
	m, count := seeded(6), map[bool]int{}
	cases(m, 5000, func(d []api.Data, of api.Type, l []api.Pattern, values []api.Value) {
		for _, x := range l {
			if m.IntN(5) == 0 {
				x = m.spoiled(x)
			}
			v := values[m.IntN(len(values))]
			want := describeMatches(x, v)
			count[want]++
			if Matches(x, v) != want {
				t.Fatalf("%s matches %v: %t", patternText(x), v, !want)
			}
		}
	})
	few(t, count, 1000, true, false)
}
