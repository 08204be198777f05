package unify

import (
	"testing"

	"leasehold/api"
	"leasehold/typetest"
)

// The tests write types as texts, as package typetest says.
var (
	lists            = typetest.Lists
	text, texts      = typetest.Text, typetest.Texts
	ty, types        = typetest.Read, typetest.ReadAll
	boxed, nesting   = typetest.Boxed, typetest.Nesting
	nameEnd, termEnd = typetest.NameEnd, typetest.TermEnd
	isNameByte       = typetest.IsNameByte
	number           = typetest.Number
	isZero           = typetest.IsZero
)

// memory adds to a map the Args of types, as addresses, each with the number of places where they stand.
func memory(count map[*api.Type]int, l ...api.Type) {
	for _, t := range l {
		if len(t.Args) > 0 {
			count[&t.Args[0]]++
			memory(count, t.Args...)
		}
	}
}

// isNew checks that results share no memory with each other, and none with arguments.
func isNew(t *testing.T, results []api.Type, args ...api.Type) {
	t.Helper()
	given, made := map[*api.Type]int{}, map[*api.Type]int{}
	memory(given, args...)
	memory(made, results...)
	for at, n := range made {
		if n != 1 || given[at] != 0 {
			t.Fatalf("%v shares memory with itself or with %v", texts(results), texts(args))
		}
	}
}
