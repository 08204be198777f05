package matching

import (
	"slices"
	"strconv"
	"testing"

	"leasehold/api"
	"leasehold/typetest"
	"leasehold/unify"
)

// This file describes the chapter's words a second time, on texts, and just as they stand there: rows are lists of patterns for lists of types, in which unify.Subst replaces the parameters, and each pattern is held against all those before it.

// describeVariants returns the types of the fields of each variant of a data type; nothing for other types.
func describeVariants(d []api.Data, t string) [][]string {
	x := ty(t)
	if x.Kind != api.TyData || x.Id < 0 || x.Id >= len(d) || d[x.Id].Params != len(x.Args) {
		return nil
	}
	var all [][]string
	for _, v := range d[x.Id].Variants {
		var fields []string
		for _, field := range v.Fields {
			fields = append(fields, typetest.Text(unify.Subst(x.Args, field)))
		}
		all = append(all, fields)
	}
	return all
}

// describeRight says whether a pattern is right for a type.
func describeRight(d []api.Data, t, x string) bool {
	if x == "_" {
		return true
	}
	name, fields := parts(x)
	for i, types := range describeVariants(d, t) {
		if name == strconv.Itoa(i) {
			return slices.EqualFunc(types, fields, func(t, x string) bool { return describeRight(d, t, x) })
		}
	}
	return false
}

// describeAllRight says whether each pattern of a list is right for a type.
func describeAllRight(d []api.Data, t string, l []string) bool {
	return !slices.ContainsFunc(l, func(x string) bool { return !describeRight(d, t, x) })
}

// describeOpened opens rows by a variant.
func describeOpened(rows [][]string, variant, fields int) [][]string {
	var opened [][]string
	for _, row := range rows {
		name, inner := parts(row[0])
		switch name {
		case "_":
			inner = slices.Repeat([]string{"_"}, fields)
		case strconv.Itoa(variant):
		default:
			continue
		}
		opened = append(opened, slices.Concat(inner, row[1:]))
	}
	return opened
}

// describeShorter returns rows without their first patterns.
func describeShorter(rows [][]string) [][]string {
	var all [][]string
	for _, row := range rows {
		all = append(all, row[1:])
	}
	return all
}

func hasVariant(row []string) bool { return row[0] != "_" }

// describeMissing returns the first missing row, if there is one.
func describeMissing(d []api.Data, types []string, rows [][]string) ([]string, bool) {
	if len(types) == 0 {
		return nil, len(rows) == 0
	}
	if !slices.ContainsFunc(rows, hasVariant) {
		further, ok := describeMissing(d, types[1:], describeShorter(rows))
		return slices.Concat([]string{"_"}, further), ok
	}
	for v, fields := range describeVariants(d, types[0]) {
		n := len(fields)
		if row, ok := describeMissing(d, slices.Concat(fields, types[1:]), describeOpened(rows, v, n)); ok {
			return slices.Concat([]string{joined(strconv.Itoa(v), row[:n])}, row[n:]), true
		}
	}
	return nil, false
}

// describeUseful says whether a row is useful after other rows.
func describeUseful(d []api.Data, types, row []string, others [][]string) bool {
	if len(types) == 0 {
		return len(others) == 0
	}
	if !hasVariant(row) && !slices.ContainsFunc(others, hasVariant) {
		return describeUseful(d, types[1:], row[1:], describeShorter(others))
	}
	for v, fields := range describeVariants(d, types[0]) {
		for _, opened := range describeOpened([][]string{row}, v, len(fields)) {
			if describeUseful(d, slices.Concat(fields, types[1:]), opened, describeOpened(others, v, len(fields))) {
				return true
			}
		}
	}
	return false
}

// describeFound writes what Missing has to return.
func describeFound(d []api.Data, t string, l []string) string {
	if !describeAllRight(d, t, l) {
		return "none"
	}
	row, ok := describeMissing(d, []string{t}, rowsOf(l))
	if !ok {
		return "none"
	}
	return row[0]
}

// describeUseless returns what Useless has to return.
func describeUseless(d []api.Data, t string, l []string) []int {
	if !describeAllRight(d, t, l) {
		return nil
	}
	var useless []int
	for i, x := range l {
		if !describeUseful(d, []string{t}, []string{x}, rowsOf(l[:i])) {
			useless = append(useless, i)
		}
	}
	return useless
}

func rowsOf(l []string) [][]string {
	var rows [][]string
	for _, x := range l {
		rows = append(rows, []string{x})
	}
	return rows
}

// describeMatches says whether a pattern matches a value.
func describeMatches(x api.Pattern, v api.Value) bool {
	if x.Variant == -1 {
		return true
	}
	if v.Kind != api.ValData || v.Variant != x.Variant || len(v.Fields) != len(x.Fields) {
		return false
	}
	for i := range v.Fields {
		if !describeMatches(x.Fields[i], v.Fields[i]) {
			return false
		}
	}
	return true
}

// check holds Missing and Useless against the description, and returns what they return.
func check(t *testing.T, d []api.Data, of string, l []api.Pattern) (string, []int) {
	t.Helper()
	texts := patternTexts(l)
	found, useless := foundText(Missing(d, ty(of), l)), Useless(d, ty(of), l)
	if want := describeFound(d, of, texts); found != want {
		t.Fatalf("%q, %s, %q: %s is missing, and not %s", dataTexts(d), of, texts, found, want)
	}
	if want := describeUseless(d, of, texts); !slices.Equal(useless, want) {
		t.Fatalf("%q, %s, %q: %d are useless, and not %d", dataTexts(d), of, texts, useless, want)
	}
	return found, useless
}
