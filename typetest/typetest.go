// Package typetest helps the tests of all layers: it writes types as texts, reads them again, and lists them. No other package of the program uses it.
//
// A text such as D1(v0,Box(P2)) has the name of the Kind, the Id and the Args of a type. The Id is left out where it is 0 and usually has no meaning. A type of another Kind is K10_5, the zero type _.
package typetest

import (
	"slices"
	"strconv"
	"strings"

	"leasehold/api"
)

// kindNames returns the names of the Kinds, by their numbers.
func kindNames() []string {
	return []string{"", "Int", "D", "Box", "Chan", "P", "Arena", "Shared", "Excl", "v"}
}

// Text returns the text of a type.
func Text(t api.Type) string {
	names := kindNames()
	head := "K" + strconv.Itoa(t.Kind) + "_" + strconv.Itoa(t.Id)
	switch {
	case IsZero(t):
		return "_"
	case t.Kind > 0 && t.Kind < len(names):
		head = names[t.Kind]
		if t.Id != 0 || len(head) == 1 {
			head += strconv.Itoa(t.Id)
		}
	}
	if len(t.Args) == 0 {
		return head
	}
	return head + "(" + strings.Join(Texts(t.Args), ",") + ")"
}

// Texts returns the texts of types.
func Texts(l []api.Type) []string {
	var all []string
	for _, t := range l {
		all = append(all, Text(t))
	}
	return all
}

// IsZero reports whether a type is the zero type.
func IsZero(t api.Type) bool { return t.Kind == 0 && t.Id == 0 && len(t.Args) == 0 }

// Boxed puts boxes around the text of a type.
func Boxed(n int, s string) string {
	return strings.Repeat("Box(", n) + s + strings.Repeat(")", n)
}

// Nesting returns the depth of a type that has a text.
func Nesting(s string) int {
	open, most := 0, 0
	for _, c := range s {
		switch c {
		case '(':
			open++
		case ')':
			open--
		}
		most = max(most, open)
	}
	return most + 1
}

// Lists calls a function with each list of n of some types, each in new memory; of less than none of them, with the empty list.
func Lists(n int, from []api.Type, f func([]api.Type)) {
	l := make([]api.Type, max(n, 0))
	var choose func(i int)
	choose = func(i int) {
		if i >= n {
			f(slices.Clone(l))
			return
		}
		for _, t := range from {
			l[i] = t
			choose(i + 1)
		}
	}
	choose(0)
}
