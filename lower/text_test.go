package lower

import (
	"fmt"
	"reflect"
	"strconv"
	"strings"

	"leasehold/api"
)

// reader reads nodes from texts as they stand in the chapter's examples. The arms of a match are lists in braces.
type reader struct{ words []string }

// read reads a list of nodes. It panics if the text is none.
func read(text string) []api.Node {
	r := &reader{strings.Fields(strings.NewReplacer(";", " ; ", "{", " { ", "}", " } ").Replace(text))}
	list := r.list()
	if len(r.words) > 0 {
		panic("no end: " + strings.Join(r.words, " "))
	}
	return list
}

// next takes the next word if it is a certain one.
func (r *reader) next(word string) bool {
	if len(r.words) == 0 || r.words[0] != word {
		return false
	}
	r.words = r.words[1:]
	return true
}

func (r *reader) number() int {
	n, err := strconv.Atoi(r.words[0])
	if err != nil {
		panic(err)
	}
	r.words = r.words[1:]
	return n
}

func (r *reader) list() (l []api.Node) {
	for len(r.words) > 0 && r.words[0] != "}" {
		l = append(l, r.node())
		if !r.next(";") {
			break
		}
	}
	return l
}

func (r *reader) braces() []api.Node {
	if !r.next("{") {
		panic("no {")
	}
	l := r.list()
	if !r.next("}") {
		panic("no }")
	}
	return l
}

func (r *reader) node() api.Node {
	switch {
	case r.next("OpConst"):
		return api.Node{Kind: api.NdIns, Ins: constant(r.number())}
	case r.next("return"):
		return api.Node{Kind: api.NdReturn, A: r.number()}
	case r.next("panic"):
		return api.Node{Kind: api.NdPanic}
	case r.next("while"):
		return api.Node{Kind: api.NdWhile, A: r.number(), Then: r.braces()}
	case r.next("if"):
		n := api.Node{Kind: api.NdIf, A: r.number(), Then: r.braces()}
		if !r.next("else") {
			panic("no else")
		}
		n.Else = r.braces()
		return n
	case r.next("match"):
		n := api.Node{Kind: api.NdMatch, A: r.number()}
		for len(r.words) > 0 && r.words[0] == "{" {
			n.Arms = append(n.Arms, r.braces())
		}
		return n
	}
	panic("no node: " + strings.Join(r.words, " "))
}

func constant(n int) api.Ins { return api.Ins{Op: api.OpConst, N: n} }

// blocksText writes blocks as they stand in the chapter's examples.
func blocksText(blocks []api.Block) string {
	var texts []string
	for i, b := range blocks {
		var parts []string
		for _, x := range b.Code {
			s := "OpConst " + strconv.Itoa(x.N)
			if !equal(x, constant(x.N)) {
				s = fmt.Sprintf("%+v", x)
			}
			parts = append(parts, s)
		}
		texts = append(texts, strconv.Itoa(i)+": "+strings.Join(append(parts, endText(b.End)), ", "))
	}
	return strings.Join(texts, "; ")
}

// endText writes a terminator, with all its fields if it has one that it should not have.
func endText(e api.Term) string {
	var targets []string
	for _, x := range e.Targets {
		targets = append(targets, strconv.Itoa(x))
	}
	a, to := strconv.Itoa(e.A), strings.Join(targets, ", ")
	switch {
	case e.Kind == api.TermJump && e.A == 0 && len(targets) == 1:
		return "Jump " + to
	case e.Kind == api.TermBranch && len(targets) == 2:
		return "Branch " + a + " to " + to
	case e.Kind == api.TermSwitch && len(targets) > 0:
		return "Switch " + a + " to " + to
	case e.Kind == api.TermReturn && len(targets) == 0:
		return "Return " + a
	case e.Kind == api.TermPanic && e.A == 0 && len(targets) == 0:
		return "Panic"
	}
	return fmt.Sprintf("%+v", e)
}

// resultText writes what Lower returns: blocks, or an error.
func resultText(blocks []api.Block, err api.Errno) string {
	if len(blocks) > 0 && err == api.OK {
		return blocksText(blocks)
	}
	name := map[api.Errno]string{api.ErrArg: "!arg", api.ErrEnd: "!end", api.ErrLimit: "!limit"}[err]
	if name == "" || len(blocks) > 0 {
		return fmt.Sprintf("%+v with error %d", blocks, err)
	}
	return name
}

// eachPart calls a function with each part of a value that can be set, however deep.
func eachPart(v reflect.Value, f func(v reflect.Value)) {
	f(v)
	switch v.Kind() {
	case reflect.Slice:
		for i := range v.Len() {
			eachPart(v.Index(i), f)
		}
	case reflect.Struct:
		for i := range v.NumField() {
			eachPart(v.Field(i), f)
		}
	}
}

// cloned returns a value that shares no memory with another one; empty lists become nil.
func cloned(v reflect.Value) reflect.Value {
	c := reflect.New(v.Type()).Elem()
	switch v.Kind() {
	case reflect.Slice:
		for i := range v.Len() {
			c = reflect.Append(c, cloned(v.Index(i)))
		}
	case reflect.Struct:
		for i := range v.NumField() {
			c.Field(i).Set(cloned(v.Field(i)))
		}
	default:
		c.Set(v)
	}
	return c
}

func clone[T any](x T) T { return cloned(reflect.ValueOf(&x).Elem()).Interface().(T) }

// equal says whether two values are equal; an empty list is the same as none.
func equal[T any](a, b T) bool { return reflect.DeepEqual(clone(a), clone(b)) }

func body(l []api.Node) api.Typed { return api.Typed{Body: l} }
