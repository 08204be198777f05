package lift

import (
	"fmt"
	"reflect"
	"strings"
	"testing"

	"leasehold/api"
	"leasehold/parser"
	"leasehold/printer"
)

// read reads a module from the text of its items.
func read(t testing.TB, items string) api.Module {
	t.Helper()
	m, err, at := parser.Parse("module m; " + items)
	if err != api.OK {
		t.Fatalf("%s\nis no module: error %d at %d", items, err, at)
	}
	return m
}

// eachPart calls a function with each part of a value that can be set, however deep.
func eachPart(v reflect.Value, f func(v reflect.Value)) {
	f(v)
	switch v.Kind() {
	case reflect.Slice:
		for i := range v.Len() {
			eachPart(v.Index(i), f)
		}
	case reflect.Struct:
		for i := range v.NumField() {
			eachPart(v.Field(i), f)
		}
	}
}

// copied returns a value that shares no memory with another one; empty lists become nil.
func copied(v reflect.Value) reflect.Value {
	c := reflect.New(v.Type()).Elem()
	switch v.Kind() {
	case reflect.Slice:
		for i := range v.Len() {
			c = reflect.Append(c, copied(v.Index(i)))
		}
	case reflect.Struct:
		for i := range v.NumField() {
			c.Field(i).Set(copied(v.Field(i)))
		}
	default:
		c.Set(v)
	}
	return c
}

func clone[T any](x T) T { return copied(reflect.ValueOf(&x).Elem()).Interface().(T) }

// equal says whether two values are equal; an empty list is the same as none.
func equal[T any](a, b T) bool { return reflect.DeepEqual(clone(a), clone(b)) }

// text writes the canonical text of a module, with _ for each dot in its names, as names with dots are not printable.
func text(t testing.TB, m api.Module) string {
	t.Helper()
	m = clone(m)
	eachPart(reflect.ValueOf(&m).Elem(), func(v reflect.Value) {
		if v.Kind() == reflect.String {
			v.SetString(strings.ReplaceAll(v.String(), ".", "_"))
		}
	})
	s := printer.Print(m)
	if s == "" {
		t.Fatalf("%+v is not printable", m)
	}
	return s
}

// lifts checks a lifted module. Both modules are texts of items; in the second one, names have _ for each dot.
func lifts(t *testing.T, items, want string) {
	t.Helper()
	m := read(t, items)
	if got := checkLift(t, m); got != "OK" {
		t.Errorf("%s: %s", items, got)
		return
	}
	lifted, _, _ := Lift(m)
	if got, want := text(t, lifted), text(t, read(t, want)); got != want {
		t.Errorf("%s\nis lifted to\n%s\nwant\n%s", items, got, want)
	}
}

// outcome writes what Lift returns but for the module: OK, or an error and its offset.
func outcome(err api.Errno, at int) string {
	names := map[api.Errno]string{api.OK: "OK", api.ErrArg: "!arg", api.ErrTwice: "!twice", api.ErrLimit: "!limit"}
	if err == api.OK && at == 0 {
		return "OK"
	}
	return fmt.Sprint(names[err], " at ", at)
}
