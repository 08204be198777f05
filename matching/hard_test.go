package matching

import (
	"maps"
	"math"
	"math/rand/v2"
	"slices"
	"strconv"
	"strings"
	"testing"

	"leasehold/api"
)

// anyNumber makes a number that is often an index, and sometimes none.
func (m maker) anyNumber() int {
	return m.one(0, 0, 0, 1, 1, 1, 2, 2, 3, -1, -1, -2, math.MinInt, math.MaxInt)
}

// anyType makes a type of any parts.
func (m maker) anyType(levels int) api.Type {
	t := api.Type{Kind: m.one(2, 2, 2, 2, 5, 5, 1, 0, 3, 9, -1, math.MinInt, math.MaxInt), Id: m.anyNumber()}
	for range m.IntN(3) {
		if levels > 1 {
			t.Args = append(t.Args, m.anyType(levels-1))
		}
	}
	return t
}

func (m maker) anyTypes(n, levels int) []api.Type {
	var l []api.Type
	for range n {
		l = append(l, m.anyType(levels))
	}
	return l
}

// anyDatas makes data types of any parts.
func (m maker) anyDatas() []api.Data {
	d := make([]api.Data, m.IntN(4))
	for i := range d {
		d[i] = api.Data{Params: m.one(0, 0, 1, 2, m.anyNumber()), Drop: m.anyNumber(), Module: m.anyNumber()}
		for range m.IntN(4) {
			d[i].Variants = append(d[i].Variants, api.Variant{Fields: m.anyTypes(m.IntN(3), 3)})
		}
	}
	return d
}

// anyPattern makes a pattern of any parts.
func (m maker) anyPattern(levels int) api.Pattern {
	x := api.Pattern{Variant: m.anyNumber()}
	if levels > 1 && x.Variant != -1 || m.IntN(20) == 0 {
		for range m.IntN(3) {
			x.Fields = append(x.Fields, m.anyPattern(levels-1))
		}
	}
	return x
}

// fitting makes a pattern that is mostly right for a type of any parts.
func (m maker) fitting(d []api.Data, t string, levels int) api.Pattern {
	variants := describeVariants(d, t)
	if len(variants) == 0 || levels == 0 || m.IntN(6) == 0 {
		return api.Pattern{Variant: m.one(-1, -1, -1, -1, -1, -1, m.anyNumber())}
	}
	x := api.Pattern{Variant: m.IntN(len(variants))}
	for _, field := range variants[x.Variant] {
		x.Fields = append(x.Fields, m.fitting(d, field, levels-1))
	}
	return x
}

// P0.1: any arguments; the description says what comes of them.
func TestAnyArguments(t *testing.T) {
	m, count := seeded(7), map[bool]int{}
	for range 40000 {
		d, of := m.anyDatas(), m.anyType(3)
		if i := m.IntN(5); i < len(d) && d[i].Params >= 0 && d[i].Params < 9 {
			of = api.Type{Kind: api.TyData, Id: i, Args: m.anyTypes(d[i].Params, 3)}
		}
		l := make([]api.Pattern, m.IntN(4))
		for i := range l {
			l[i] = m.fitting(d, typeText(of), 3)
			if m.IntN(8) == 0 {
				l[i] = m.anyPattern(3)
			}
		}
		found, _ := check(t, d, typeText(of), l)
		right := describeAllRight(d, typeText(of), patternTexts(l))
		if deep := slices.ContainsFunc(l, func(x api.Pattern) bool { return len(x.Fields) > 0 }); deep {
			count[right]++
		}
		if !right && found != "none" {
			t.Fatal(found)
		}
	}
	few(t, count, 1000, true, false)
}

// chain returns the pattern of a list of n elements.
func chain(n int, last string) api.Pattern {
	x := pattern(last)
	for range n {
		x = api.Pattern{Variant: 1, Fields: []api.Pattern{{Variant: -1}, x}}
	}
	return x
}

// depth returns how often the second field of a pattern can be followed, and the variant at the end.
func depth(x api.Pattern) (n, variant int) {
	for ; x.Variant == 1; n++ {
		x = x.Fields[1]
	}
	return n, x.Variant
}

// P0.1: patterns and values that are very deep.
func TestDeep(t *testing.T) {
	const n = 60000
	d, of := program(), ty("D4")
	for _, test := range []struct {
		l              []api.Pattern
		depth, variant int
		useless        []int
	}{
		{[]api.Pattern{chain(n, "0")}, 0, 0, nil},
		{[]api.Pattern{chain(0, "0"), chain(n, "0")}, 1, 0, nil},
		{[]api.Pattern{chain(n, "_"), chain(n, "0"), chain(n, "1(_,_)"), chain(n+5, "_"), chain(n-1, "_")}, 0, 0, []int{1, 2, 3}},
		{[]api.Pattern{chain(n, "0"), chain(n, "1(_,_)"), chain(n, "_")}, 0, 0, []int{2}},
	} {
		x, ok := Missing(d, of, test.l)
		if n, variant := depth(x); !ok || n != test.depth || variant != test.variant {
			t.Errorf("missing: %t, %d, %d", ok, n, variant)
		}
		if got := Useless(d, of, test.l); !slices.Equal(got, test.useless) {
			t.Errorf("useless: %d", got)
		}
	}
	v := value("0")
	for range n {
		v = api.Value{Kind: api.ValData, Variant: 1, Fields: []api.Value{{}, v}}
	}
	if !Matches(chain(n, "0"), v) || Matches(chain(n, "1(_,_)"), v) || Matches(chain(n+1, "_"), v) || !Matches(chain(n-1, "1(_,0)"), v) {
		t.Error("deep values")
	}
}

// P0.1: a missing pattern that is very deep.
func TestDeepMissing(t *testing.T) {
	const n = 1000
	var l []api.Pattern
	for i := range n {
		l = append(l, chain(i, "0"))
	}
	for range 2 {
		x, ok := Missing(program(), ty("D4"), l)
		if got, variant := depth(x); !ok || got != n || variant != -1 {
			t.Errorf("missing: %t, %d, %d", ok, got, variant)
		}
		if got := Useless(program(), ty("D4"), l); len(got) > 0 {
			t.Errorf("useless: %d", got)
		}
		slices.Reverse(l)
	}
	if _, ok := Missing(program(), ty("D4"), append(l, chain(n, "_"))); ok {
		t.Error("none is missing")
	}
}

// P0.1: types that double with each of many data types, when the parameters are replaced.
func TestDoubledTypes(t *testing.T) {
	const n = 200
	d := datas("2 [P0 P1]", "0 [] []", "1 [P0]")
	for i := range n {
		d = append(d, datas("1 [D"+strconv.Itoa(i+2)+"(D0(P0,P0))]")...)
	}
	of := ty("D" + strconv.Itoa(n+2) + "(D1)")
	nested := func(pairs int, last string) api.Pattern {
		x := pattern(last)
		for range pairs {
			x = api.Pattern{Fields: []api.Pattern{{Variant: -1}, x}}
		}
		for range n + 1 {
			x = api.Pattern{Fields: []api.Pattern{x}}
		}
		return x
	}
	for _, wrong := range []api.Pattern{nested(n-1, "1"), nested(n+1, "1"), nested(n, "2"), nested(n, "0(_)")} {
		if got := foundText(Missing(d, of, []api.Pattern{wrong})); got != "none" {
			t.Error(got)
		}
	}
	if x, ok := Missing(d, of, []api.Pattern{nested(n, "1")}); !ok || !same(x, nested(n, "0")) {
		t.Error(foundText(x, ok))
	}
	if useless := Useless(d, of, []api.Pattern{nested(n, "1"), nested(n, "0"), nested(n, "_"), nested(0, "_")}); !slices.Equal(useless, []int{2, 3}) {
		t.Errorf("useless: %d", useless)
	}
}

// tuple returns data types, the last of which has fields of one type, with variants without fields.
func tuple(fields, variants int) ([]api.Data, api.Type) {
	d := []api.Data{{Variants: make([]api.Variant, variants)}, {Variants: []api.Variant{{Fields: make([]api.Type, fields)}}}}
	for i := range fields {
		d[1].Variants[0].Fields[i] = ty("D0")
	}
	return d, ty("D1")
}

// with returns a pattern for a tuple that has variants only in some fields.
func with(fields int, variants map[int]int) api.Pattern {
	x := api.Pattern{Fields: slices.Repeat([]api.Pattern{{Variant: -1}}, fields)}
	for i, v := range variants {
		x.Fields[i].Variant = v
	}
	return x
}

// P0.1: patterns and types that are very wide.
func TestWide(t *testing.T) {
	const n = 100000
	d, of := tuple(n, 2)
	a, b := with(n, nil), with(n, nil)
	for i := range n {
		a.Fields[i].Variant, b.Fields[i].Variant = 0, i/(n-1)
	}
	x, ok := Missing(d, of, []api.Pattern{a, b})
	want := with(n, nil)
	for i := range n - 1 {
		want.Fields[i].Variant = i / (n - 2)
	}
	if !ok || !same(x, want) {
		t.Errorf("missing: %t", ok)
	}
	if got := Useless(d, of, []api.Pattern{a, a, b, a, with(n, nil), b}); !slices.Equal(got, []int{1, 3, 5}) {
		t.Errorf("useless: %d", got)
	}
	d, of = tuple(1, n)
	var l []api.Pattern
	for i := range n {
		l = append(l, with(1, map[int]int{0: (i + n/2) % n}))
	}
	if x, ok := Missing(d, of, l[1:]); !ok || x.Fields[0].Variant != n/2 {
		t.Errorf("missing: %t, %s", ok, patternText(x))
	}
	if _, ok := Missing(d, of, l); ok {
		t.Error("none is missing")
	}
	if got := Useless(d, of, append(l, l[7], with(1, nil))); !slices.Equal(got, []int{n, n + 1}) {
		t.Errorf("useless: %d", got)
	}
	v := api.Value{Kind: api.ValData, Fields: make([]api.Value, n)}
	if !Matches(with(n, nil), v) || Matches(a, v) {
		t.Error("wide values")
	}
}

// P0.1: all patterns for 14 flags, in all orders of a kind, and one for any value.
func TestManyPatterns(t *testing.T) {
	const flags = 14
	d, of := tuple(flags, 2)
	var l []api.Pattern
	for i := range 1 << flags {
		x := with(flags, nil)
		for j := range flags {
			x.Fields[j].Variant = i >> j & 1
		}
		l = append(l, x)
	}
	if _, ok := Missing(d, of, l); ok || len(Useless(d, of, l)) > 0 {
		t.Error("all are there once")
	}
	last := len(l) - 1
	if x, ok := Missing(d, of, l[:last]); !ok || !same(x, l[last]) {
		t.Errorf("missing: %t, %s", ok, patternText(x))
	}
	more := slices.Concat(l[:last], []api.Pattern{with(flags, map[int]int{3: 0}), with(flags, map[int]int{3: 1}), with(flags, nil)}, l)
	useless := Useless(d, of, more)
	if len(useless) != len(l)+2 || useless[0] != last || useless[1] != last+2 {
		t.Errorf("useless: %d", useless[:2])
	}
	seeded(8).Shuffle(len(l), func(i, j int) { l[i], l[j] = l[j], l[i] })
	if x, ok := Missing(d, of, l[1:]); !ok || !same(x, l[0]) || len(Useless(d, of, l)) > 0 {
		t.Errorf("missing: %t, %s", ok, patternText(x))
	}
}

// P0.1: the last field decides, but the variants of the fields before it can be chosen in 2^28 ways.
func TestLastFieldDecides(t *testing.T) {
	d, of := tuple(8, 16)
	var l []api.Pattern
	for field := range 7 {
		for v := range 16 {
			l = append(l, with(8, map[int]int{field: v, 7: v}))
		}
	}
	for v := range 15 {
		l = append(l, with(8, map[int]int{7: v + 1}))
	}
	if x, ok := Missing(d, of, l); foundText(x, ok) != "0(1,1,1,1,1,1,1,0)" || len(Useless(d, of, l)) > 0 {
		t.Error(foundText(x, ok))
	}
	l = append(l, with(8, map[int]int{7: 0}), with(8, map[int]int{2: 4}))
	if x, ok := Missing(d, of, l); ok || !slices.Equal(Useless(d, of, l), []int{len(l) - 1}) {
		t.Error(foundText(x, ok))
	}
	slices.Reverse(l)
	if got := len(Useless(d, of, l)); got != 7*16 {
		t.Errorf("%d are useless", got)
	}
}

// P0.1: two fields after the other leave two ways, but the last two leave none, or one.
func TestManyWays(t *testing.T) {
	const n = 60
	d, of := tuple(n, 2)
	var l []api.Pattern
	for field := 0; field < n-2; field += 2 {
		l = append(l, with(n, map[int]int{field: 0, field + 1: 0}), with(n, map[int]int{field: 1, field + 1: 1}))
	}
	for i := range 4 {
		l = append(l, with(n, map[int]int{n - 2: i / 2, n - 1: i % 2}))
	}
	if x, ok := Missing(d, of, l); ok || !slices.Equal(Useless(d, of, append(l, with(n, nil))), []int{len(l)}) {
		t.Error(foundText(x, ok))
	}
	want := with(n, nil)
	for i := range n {
		want.Fields[i].Variant = i % 2
	}
	want.Fields[n-2].Variant = 1
	if x, ok := Missing(d, of, l[:len(l)-1]); !ok || !same(x, want) {
		t.Error(foundText(x, ok))
	}
}

// P0.1: many random patterns for many fields.
func TestManyRandomPatterns(t *testing.T) {
	m := seeded(9)
	d, of := tuple(6, 4)
	var l []api.Pattern
	for range 3000 {
		fields := map[int]int{}
		for i := range 6 {
			if m.IntN(8) > 0 {
				fields[i] = m.IntN(4)
			}
		}
		l = append(l, with(6, fields))
	}
	var useless []int
	left := allValues(d, of, 2)
	for i, x := range l {
		n := len(left)
		left = slices.DeleteFunc(left, func(v api.Value) bool { return Matches(x, v) })
		if n == len(left) {
			useless = append(useless, i)
		}
	}
	if _, ok := Missing(d, of, l); ok != (len(left) > 0) || !slices.Equal(Useless(d, of, l), useless) || len(useless) < 500 || len(useless) > 2500 {
		t.Errorf("missing: %t, useless: %d of %d", ok, len(useless), len(l))
	}
}

// A search that may remember nothing, or little, finds the same.
func TestLittleMemory(t *testing.T) {
	m, count := seeded(11), map[bool]int{}
	for range 3000 {
		d, of := tuple(7, 2)
		var l []api.Pattern
		for range 10 + m.IntN(20) {
			l = append(l, with(7, map[int]int{m.IntN(7): m.IntN(2), m.IntN(7): m.IntN(2), m.IntN(7): m.IntN(2)}))
		}
		var found []string
		for _, left := range []int{memory, 0, 40} {
			table := newTable()
			rows, _ := table.rows(d, of, l)
			s := table.newSearch()
			s.left = left
			found = append(found, foundText(s.missing(d, lazy{Type: of}, table.sorted(rows))))
			if used := len(strings.Join(slices.Collect(maps.Keys(s.known)), "")); used > left {
				t.Fatalf("%d bytes of %d", used, left)
			}
		}
		count[found[0] == "none"]++
		if len(slices.Compact(found)) > 1 {
			t.Fatalf("%q: %q", patternTexts(l), found)
		}
	}
	few(t, count, 100, true, false)
}

// clonePattern copies a pattern; no memory is shared.
func clonePattern(x api.Pattern) api.Pattern {
	return api.Pattern{Variant: x.Variant, Fields: cloneAll(x.Fields)}
}

func cloneAll(l []api.Pattern) []api.Pattern {
	var all []api.Pattern
	for _, x := range l {
		all = append(all, clonePattern(x))
	}
	return all
}

// Functions do not change their arguments, and what they return shares no memory with them.
func TestMemory(t *testing.T) {
	m := seeded(10)
	cases(m, 3000, func(d []api.Data, of api.Type, l []api.Pattern, values []api.Value) {
		before, programBefore, typeBefore := cloneAll(l), dataTexts(d), typeText(of)
		x, ok := Missing(d, of, l)
		useless := Useless(d, of, l)
		Matches(x, values[0])
		found := foundText(x, ok)
		for i := range useless {
			useless[i] = -1
		}
		spoil(x)
		if !slices.EqualFunc(l, before, same) || !slices.Equal(dataTexts(d), programBefore) || typeText(of) != typeBefore {
			t.Fatal("the arguments were changed")
		}
		if got, _ := check(t, d, typeBefore, l); got != found {
			t.Fatalf("%s is missing, and then %s", found, got)
		}
	})
}

// spoil changes all memory of a pattern.
func spoil(x api.Pattern) {
	for i := range x.Fields {
		spoil(x.Fields[i])
		x.Fields[i] = api.Pattern{Variant: 99}
	}
}

// FuzzMatching holds the functions against the description.
func FuzzMatching(f *testing.F) {
	for i := range uint64(20) {
		f.Add(i, i)
	}
	f.Fuzz(func(t *testing.T, a, b uint64) {
		m := maker{rand.New(rand.NewPCG(a, b))}
		d := m.datas()
		of := m.typ(d, 0, 3)
		check(t, d, typeText(of), m.list(d, of, m.IntN(8)))
		d, of = m.anyDatas(), m.anyType(3)
		check(t, d, typeText(of), []api.Pattern{m.fitting(d, typeText(of), 3), m.anyPattern(3), m.fitting(d, typeText(of), 3)})
	})
}
