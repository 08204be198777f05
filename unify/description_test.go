package unify

import (
	"regexp"
	"slices"
	"strconv"
	"strings"
	"testing"

	"leasehold/api"
)

// This file describes substitutions and unifiers a second time, on the texts of types: variables are replaced in texts, and two types are unified at the first place where their texts differ.

var (
	nameText     = regexp.MustCompile(`[A-Za-z0-9_-]+\(?`)
	variableText = regexp.MustCompile(`v-?[0-9]+`)
	goodHead     = regexp.MustCompile(`^(Int|D|Box|Chan|P|Arena|Shared|Excl)-?[0-9]*\(?$`)
)

// over says whether a type is over a substitution of n variables.
func over(n int, s string) bool {
	for _, name := range nameText.FindAllString(s, -1) {
		if digits, ok := strings.CutPrefix(name, "v"); ok {
			v, err := strconv.Atoi(digits) // this fails if the variable has Args
			if err != nil || v < 0 || v >= n {
				return false
			}
		} else if !goodHead.MatchString(name) {
			return false
		}
	}
	return true
}

// isDone says whether a text has no solved variables.
func isDone(s []string, x string) bool {
	return !slices.ContainsFunc(variableText.FindAllString(x, -1), func(v string) bool { return s[number(v[1:])] != "_" })
}

// replaceOnce replaces the solved variables in a text by their elements.
func replaceOnce(s []string, x string) string {
	return variableText.ReplaceAllStringFunc(x, func(v string) string {
		if element := s[number(v[1:])]; element != "_" {
			return element
		}
		return v
	})
}

// expanded applies a substitution; it says false if that does not come to an end.
func expanded(s []string, x string) (string, bool) {
	for range s {
		x = replaceOnce(s, x)
	}
	return x, isDone(s, x)
}

func wellFormed(s []string) bool {
	for _, element := range s {
		if element != "_" && !over(len(s), element) {
			return false
		}
	}
	for i := range s {
		if x, ok := expanded(s, "v"+strconv.Itoa(i)); !ok || nesting(x) > 8 {
			return false
		}
	}
	return true
}

// difference returns the types at the first place where two texts differ. They are the same if the difference is a number of Args.
func difference(a, b string) (string, string) {
	i := 0
	for i < len(a) && i < len(b) && a[i] == b[i] {
		i++
	}
	for i > 0 && isNameByte(a[i-1]) {
		i--
	}
	return a[i:termEnd(a, i)], b[i:termEnd(b, i)]
}

func isVariableText(s string) bool { return s[0] == 'v' }

// replaceIn replaces a variable in texts.
func replaceIn(l []string, v, by string) {
	for i := range l {
		l[i] = variableText.ReplaceAllStringFunc(l[i], func(other string) string {
			if other == v {
				return by
			}
			return other
		})
	}
}

// describe says what Unify has to return.
func describe(s []string, a, b string) ([]string, api.Errno) {
	if !wellFormed(s) || !over(len(s), a) || !over(len(s), b) || nesting(a) > 8 || nesting(b) > 8 {
		return nil, api.ErrArg
	}
	var l []string
	for _, x := range append(slices.Clone(s), a, b) {
		x, _ = expanded(s, x)
		l = append(l, x)
	}
	n := len(s)
	for l[n] != l[n+1] {
		x, y := difference(l[n], l[n+1])
		if x == y {
			return nil, api.ErrType
		}
		if !isVariableText(x) {
			x, y = y, x
		}
		if !isVariableText(x) || slices.Contains(variableText.FindAllString(y, -1), x) {
			return nil, api.ErrType
		}
		replaceIn(l, x, y)
		l[number(x[1:])] = y
	}
	preferLeast(l[:n])
	l[n], _ = expanded(l[:n], l[n])
	if slices.ContainsFunc(l[:n+1], func(x string) bool { return nesting(x) > 8 }) {
		return nil, api.ErrLimit
	}
	return l[:n], api.OK
}

// preferLeast makes the least one of variables that stand for each other unsolved.
func preferLeast(l []string) {
	for i := range l {
		unsolved := "v" + strconv.Itoa(i)
		if least := slices.Index(l, unsolved); l[i] == "_" && least >= 0 && least < i {
			replaceIn(l, unsolved, "v"+strconv.Itoa(least))
			l[i], l[least] = "v"+strconv.Itoa(least), "_"
		}
	}
}

// describeApply says what Apply has to return.
func describeApply(s []string, x string) string {
	if !wellFormed(s) || !over(len(s), x) {
		return "_"
	}
	x, _ = expanded(s, x)
	return x
}

// describeSubst says what Subst has to return.
func describeSubst(args []string, x string) string {
	var out strings.Builder
	for at := 0; at < len(x); {
		end := nameEnd(x, at)
		name := x[at:end]
		if strings.HasPrefix(name, "P") {
			if i := number(name[1:]); i >= 0 && i < len(args) {
				out.WriteString(args[i])
				at = termEnd(x, at)
				continue
			}
		}
		end = max(end, at+1)
		out.WriteString(x[at:end])
		at = end
	}
	return out.String()
}

// checkUnify holds Unify against the description, and its result against P5.3 and P5.5. It returns the error.
func checkUnify(t *testing.T, s []api.Type, a, b api.Type) api.Errno {
	t.Helper()
	given := texts(append(slices.Clone(s), a, b))
	want, wantErr := describe(given[:len(s)], text(a), text(b))
	r, err := Unify(s, a, b)
	if err != wantErr || !slices.Equal(texts(r), want) {
		t.Fatalf("%v with %s and %s:\n%v, error %d, want\n%v, error %d", texts(s), text(a), text(b), texts(r), err, want, wantErr)
	}
	if after := texts(append(slices.Clone(s), a, b)); !slices.Equal(after, given) {
		t.Fatalf("%v became %v", given, after)
	}
	isNew(t, r, append(slices.Clone(s), a, b)...)
	if other, otherErr := Unify(s, b, a); otherErr != err || !slices.Equal(texts(other), want) {
		t.Fatalf("%v with %s and %s: not so if they are exchanged", given[:len(s)], text(a), text(b))
	}
	if err == api.OK {
		checkUnifier(t, s, r, a, b)
	}
	return err
}

// checkUnifier checks that a unifier makes two types equal, that it extends a substitution, and that unifying again changes nothing.
func checkUnifier(t *testing.T, s, r []api.Type, a, b api.Type) {
	t.Helper()
	if x, y := text(Apply(r, a)), text(Apply(r, b)); x != y || x == "_" {
		t.Fatalf("%v makes of %s and %s: %s and %s", texts(r), text(a), text(b), x, y)
	}
	for i, element := range s {
		v := api.Type{Kind: api.TyVar, Id: i}
		if !isZero(element) && text(Apply(r, v)) != text(Apply(r, element)) {
			t.Fatalf("%v does not extend %v", texts(r), texts(s))
		}
	}
	again, err := Unify(r, a, b)
	if err != api.OK || !slices.Equal(texts(again), texts(r)) {
		t.Fatalf("%v became %v when %s and %s were unified again: error %d", texts(r), texts(again), text(a), text(b), err)
	}
}

// checkApply holds Apply against the description.
func checkApply(t *testing.T, s []api.Type, x api.Type) string {
	t.Helper()
	got, want := Apply(s, x), describeApply(texts(s), text(x))
	if text(got) != want {
		t.Fatalf("%v applied to %s: %s, want %s", texts(s), text(x), text(got), want)
	}
	isNew(t, []api.Type{got}, append(slices.Clone(s), x)...)
	return want
}
