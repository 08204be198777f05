package unify

import (
	"slices"
	"strconv"
	"strings"
	"testing"

	"leasehold/api"
)

// The tests write types as texts, such as D1(v0,Box(P2)): the name of the Kind, the Id, and the Args. The Id is left out where it is 0 and usually has no meaning. A type of another Kind is K10_5, the zero type _.

var kindNames = []string{"", "Int", "D", "Box", "Chan", "P", "Arena", "Shared", "Excl", "v"}

func text(t api.Type) string {
	head := "K" + strconv.Itoa(t.Kind) + "_" + strconv.Itoa(t.Id)
	switch {
	case isZero(t):
		return "_"
	case t.Kind > 0 && t.Kind < len(kindNames):
		head = kindNames[t.Kind] + strconv.Itoa(t.Id)
		if t.Id == 0 && len(kindNames[t.Kind]) > 1 {
			head = kindNames[t.Kind]
		}
	}
	if len(t.Args) == 0 {
		return head
	}
	return head + "(" + strings.Join(texts(t.Args), ",") + ")"
}

func isZero(t api.Type) bool { return t.Kind == 0 && t.Id == 0 && len(t.Args) == 0 }

func texts(l []api.Type) []string {
	var all []string
	for _, t := range l {
		all = append(all, text(t))
	}
	return all
}

func isNameByte(c byte) bool {
	return c == '_' || c == '-' || c >= '0' && c <= '9' || c >= 'A' && c <= 'Z' || c >= 'a' && c <= 'z'
}

// nameEnd returns where the name that begins at an offset ends.
func nameEnd(s string, at int) int {
	for at < len(s) && isNameByte(s[at]) {
		at++
	}
	return at
}

// termEnd returns where the type that begins at an offset ends.
func termEnd(s string, at int) int {
	at = nameEnd(s, at)
	if at == len(s) || s[at] != '(' {
		return at
	}
	for open := 0; ; at++ {
		switch s[at] {
		case '(':
			open++
		case ')':
			open--
		}
		if open == 0 {
			return at + 1
		}
	}
}

// ty reads a type from its text.
func ty(s string) api.Type {
	end := nameEnd(s, 0)
	t := headOf(s[:end])
	for end < len(s) && s[end] != ')' { // at an opening bracket, or a comma
		next := termEnd(s, end+1)
		t.Args = append(t.Args, ty(s[end+1:next]))
		end = next
	}
	return t
}

func headOf(name string) api.Type {
	if name == "_" {
		return api.Type{}
	}
	if other, ok := strings.CutPrefix(name, "K"); ok {
		kind, id, _ := strings.Cut(other, "_")
		return api.Type{Kind: number(kind), Id: number(id)}
	}
	letters := strings.TrimRight(name, "-0123456789")
	kind := slices.Index(kindNames, letters)
	if kind < 1 {
		panic("no Kind: " + name)
	}
	return api.Type{Kind: kind, Id: number(name[len(letters):])}
}

func number(digits string) int {
	if digits == "" {
		return 0
	}
	n, err := strconv.Atoi(digits)
	if err != nil {
		panic(err)
	}
	return n
}

// types reads types from a text in which they are separated by spaces.
func types(s string) []api.Type {
	var l []api.Type
	for _, word := range strings.Fields(s) {
		l = append(l, ty(word))
	}
	return l
}

// boxed puts boxes around the text of a type.
func boxed(n int, s string) string {
	return strings.Repeat("Box(", n) + s + strings.Repeat(")", n)
}

func TestTexts(t *testing.T) {
	for _, s := range strings.Fields("_ Int Int7 D0 D-1(P0,v12(_)) Box(Box(Int),_) K-3_5(K0_1,K10_0(Int)) Shared(Arena) Excl2(Chan(P3)) " + boxed(9, "v0")) {
		if got := text(ty(s)); got != s {
			t.Errorf("%s became %s", s, got)
		}
	}
	pair := api.Type{Kind: api.TyData, Id: 1, Args: []api.Type{{Kind: api.TyVar}, {Kind: api.TyBox, Args: []api.Type{{Kind: api.TyParam, Id: 2}}}}}
	if got := text(pair); got != "D1(v0,Box(P2))" {
		t.Error(got)
	}
}

// memory adds to a map the Args of types, as addresses, each with the number of places where they stand.
func memory(count map[*api.Type]int, l ...api.Type) {
	for _, t := range l {
		if len(t.Args) > 0 {
			count[&t.Args[0]]++
			memory(count, t.Args...)
		}
	}
}

// isNew checks that results share no memory with each other, and none with arguments.
func isNew(t *testing.T, results []api.Type, args ...api.Type) {
	t.Helper()
	given, made := map[*api.Type]int{}, map[*api.Type]int{}
	memory(given, args...)
	memory(made, results...)
	for at, n := range made {
		if n != 1 || given[at] != 0 {
			t.Fatalf("%v shares memory with itself or with %v", texts(results), texts(args))
		}
	}
}
