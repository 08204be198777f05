package matching

import (
	"slices"
	"strconv"
	"strings"
	"testing"

	"leasehold/api"
	"leasehold/typetest"
)

// The tests write types as texts, as package typetest says, and so what they need with them:
//   - a pattern is _ for any value, or 1(0,_), with its Variant and its Fields;
//   - a value is 1(0,int), with the Variant and the Fields of a ValData, or the name of another Kind;
//   - a data type is 1 [] [P0 D1], with its Params, and the Fields of each of its Variants.
var (
	number   = typetest.Number
	ty       = typetest.Read
	types    = typetest.ReadAll
	nameEnd  = typetest.NameEnd
	termEnd  = typetest.TermEnd
	typeText = typetest.Text
)

// parts divides a text such as 1(0,_) into the name and the texts in brackets.
func parts(s string) (name string, inner []string) {
	at := nameEnd(s, 0)
	name = s[:at]
	for at < len(s) && s[at] != ')' {
		end := termEnd(s, at+1)
		inner = append(inner, s[at+1:end])
		at = end
	}
	return name, inner
}

// joined is the contrary of parts.
func joined(name string, inner []string) string {
	if len(inner) == 0 {
		return name
	}
	return name + "(" + strings.Join(inner, ",") + ")"
}

func pattern(s string) api.Pattern {
	name, inner := parts(s)
	if name == "_" {
		name = "-1"
	}
	x := api.Pattern{Variant: number(name)}
	for _, field := range inner {
		x.Fields = append(x.Fields, pattern(field))
	}
	return x
}

func patterns(s string) []api.Pattern {
	var l []api.Pattern
	for _, word := range strings.Fields(s) {
		l = append(l, pattern(word))
	}
	return l
}

func patternText(x api.Pattern) string {
	name := strconv.Itoa(x.Variant)
	if x.Variant == -1 {
		name = "_"
	}
	return joined(name, patternTexts(x.Fields))
}

func patternTexts(l []api.Pattern) []string {
	var all []string
	for _, x := range l {
		all = append(all, patternText(x))
	}
	return all
}

// foundText writes what Missing returns.
func foundText(x api.Pattern, ok bool) string {
	if !ok && x.Variant == 0 && len(x.Fields) == 0 {
		return "none"
	}
	if !ok {
		return "none, but " + patternText(x)
	}
	return patternText(x)
}

func value(s string) api.Value {
	name, inner := parts(s)
	kinds := []string{"nothing", "int", "", "box", "chan", "arena", "ref"}
	v := api.Value{Kind: slices.Index(kinds, name)}
	if v.Kind < 0 {
		v.Kind, v.Variant = api.ValData, number(name)
	}
	for _, field := range inner {
		v.Fields = append(v.Fields, value(field))
	}
	return v
}

func datas(texts ...string) []api.Data {
	var d []api.Data
	for _, s := range texts {
		params, variants, _ := strings.Cut(s, "[")
		data := api.Data{Params: number(strings.TrimSpace(params))}
		for _, fields := range strings.Split(variants, "[") {
			if fields, found := strings.CutSuffix(strings.TrimSpace(fields), "]"); found {
				data.Variants = append(data.Variants, api.Variant{Fields: types(fields)})
			}
		}
		d = append(d, data)
	}
	return d
}

func dataTexts(d []api.Data) []string {
	var all []string
	for _, data := range d {
		s := strconv.Itoa(data.Params)
		for _, v := range data.Variants {
			s += " [" + strings.Join(typetest.Texts(v.Fields), " ") + "]"
		}
		all = append(all, s)
	}
	return all
}

func TestTexts(t *testing.T) {
	all := "_ 0 12 1(0,_) -1(_) -2(_,3(_,_(0)),4)"
	want := api.Pattern{Variant: -2, Fields: []api.Pattern{{Variant: -1}, {Variant: 3, Fields: []api.Pattern{{Variant: -1}, {Variant: -1, Fields: []api.Pattern{{}}}}}, {Variant: 4}}}
	if got := patterns(all); strings.Join(patternTexts(got), " ") != strings.Replace(all, "-1(", "_(", 1) || !same(got[5], want) {
		t.Error(patternTexts(got))
	}
	v := value("2(int,ref,0)")
	if v.Kind != api.ValData || v.Variant != 2 || len(v.Fields) != 3 || v.Fields[0].Kind != api.ValInt || v.Fields[1].Kind != api.ValRef || v.Fields[2].Kind != api.ValData {
		t.Error(v)
	}
	programs := []string{"1 [] [P0 D1(Int)]", "0", "3 []"}
	if got := dataTexts(datas(programs...)); !slices.Equal(got, programs) {
		t.Errorf("%q", got)
	}
}

func same(a, b api.Pattern) bool {
	return a.Variant == b.Variant && slices.EqualFunc(a.Fields, b.Fields, same)
}
