package typetest

import (
	"slices"
	"strconv"
	"strings"

	"leasehold/api"
)

// IsNameByte reports whether a byte can be in the name or the number of a part.
func IsNameByte(c byte) bool {
	return c == '_' || c == '-' || c >= '0' && c <= '9' || c >= 'A' && c <= 'Z' || c >= 'a' && c <= 'z'
}

// NameEnd returns where the name that begins at an offset ends.
func NameEnd(s string, at int) int {
	for at < len(s) && IsNameByte(s[at]) {
		at++
	}
	return at
}

// TermEnd returns where the type that begins at an offset ends.
func TermEnd(s string, at int) int {
	at = NameEnd(s, at)
	if at == len(s) || s[at] != '(' {
		return at
	}
	for open := 0; ; at++ {
		switch s[at] {
		case '(':
			open++
		case ')':
			open--
		}
		if open == 0 {
			return at + 1
		}
	}
}

// Read returns the type that has a text. It panics if there is none, as tests have to be right.
func Read(s string) api.Type {
	end := NameEnd(s, 0)
	t := headOf(s[:end])
	for end < len(s) && s[end] != ')' { // at an opening bracket, or a comma
		next := TermEnd(s, end+1)
		t.Args = append(t.Args, Read(s[end+1:next]))
		end = next
	}
	return t
}

// ReadAll reads types from a text in which they are separated by spaces.
func ReadAll(s string) []api.Type {
	var l []api.Type
	for _, word := range strings.Fields(s) {
		l = append(l, Read(word))
	}
	return l
}

func headOf(name string) api.Type {
	if name == "_" {
		return api.Type{}
	}
	if other, ok := strings.CutPrefix(name, "K"); ok {
		kind, id, _ := strings.Cut(other, "_")
		return api.Type{Kind: Number(kind), Id: Number(id)}
	}
	letters := strings.TrimRight(name, "-0123456789")
	kind := slices.Index(kindNames(), letters)
	if kind < 1 {
		panic("no Kind: " + name)
	}
	return api.Type{Kind: kind, Id: Number(name[len(letters):])}
}

// Number reads a number; no digits are 0. It panics if there is none.
func Number(digits string) int {
	if digits == "" {
		return 0
	}
	n, err := strconv.Atoi(digits)
	if err != nil {
		panic("no number: " + digits)
	}
	return n
}
