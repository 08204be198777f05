package check

import (
	"fmt"
	"strconv"
	"strings"
	"testing"

	"leasehold/api"
	"leasehold/parser"
	"leasehold/resolve"
	"leasehold/typetest"
)

func text(t api.Type) string { return typetest.Text(t) }
func ty(s string) api.Type   { return typetest.Read(s) }

// errorName returns the name by which tests know an error.
func errorName(err api.Errno) string {
	return [...]string{"", "!arg", "!limit", "!char", "!syntax", "!end", "!name", "!twice", "!type", "!trait", "!overlap", "!match"}[err]
}

// opNames are the names of instructions, by their Ops.
func opNames() []string {
	return strings.Fields("none const add sub mul less equal take make open box unbox loan re in split load store drop call method print arena alloc chan send recv spawn guard dropif")
}

// shown writes a number that is not 0 after a letter.
func shown(letter string, n int) string {
	if n == 0 {
		return ""
	}
	return " " + letter + strconv.Itoa(n)
}

// insText writes an instruction: its name, and those of its fields that are not zero.
func insText(i api.Ins) string {
	name := "op" + strconv.Itoa(i.Op)
	if names := opNames(); i.Op > 0 && i.Op < len(names) {
		name = names[i.Op]
	}
	s := name + shown("d", i.Dst) + shown("a", i.A) + shown("n", i.N) + shown("b", i.B)
	if len(i.Args) > 0 {
		s += " " + fmt.Sprint(i.Args)
	}
	if len(i.Types) > 0 {
		s += " <" + strings.Join(typetest.Texts(i.Types), " ") + ">"
	}
	return s
}

func blockText(l []api.Node) string {
	var texts []string
	for _, n := range l {
		texts = append(texts, nodeText(n))
	}
	return strings.Join(texts, "; ")
}

// nodeText writes a node. What its Kind has no use for is written only if it is there.
func nodeText(n api.Node) string {
	s := ""
	switch n.Kind {
	case api.NdIns:
		s = insText(n.Ins)
		n.Ins = api.Ins{}
	case api.NdIf:
		s = "if" + shown("a", n.A) + " {" + blockText(n.Then) + "} {" + blockText(n.Else) + "}"
		n.A, n.Then, n.Else = 0, nil, nil
	case api.NdWhile:
		s = "while" + shown("a", n.A) + " {" + blockText(n.Then) + "}"
		n.A, n.Then = 0, nil
	case api.NdMatch:
		s = "match" + shown("a", n.A)
		for _, arm := range n.Arms {
			s += " {" + blockText(arm) + "}"
		}
		n.A, n.Arms = 0, nil
	case api.NdReturn:
		s = "return" + shown("a", n.A)
		n.A = 0
	case api.NdPanic:
		s = "panic"
	}
	if rest := fmt.Sprint(n); rest != fmt.Sprint(api.Node{Kind: n.Kind}) {
		s += " and " + rest
	}
	return s
}

// typedText writes a checked body: the types of its locals, and its nodes.
func typedText(t api.Typed) string {
	return strings.Join(typetest.Texts(t.Locals), " ") + " | " + blockText(t.Body)
}

// resultText writes a result of Body: a checked body, or an error and its offset.
func resultText(typed api.Typed, err api.Errno, at int) string {
	if err == api.OK && at == 0 {
		return typedText(typed)
	}
	s := errorName(err) + " at " + strconv.Itoa(at)
	if fmt.Sprint(typed) != fmt.Sprint(api.Typed{}) {
		s += " with " + typedText(typed)
	}
	return s
}

// sources are the modules before the one with the function that is tested. This one uses lib, but not dark.
var sources = []string{`module dark;
data Secret { secret };
trait Dark;
fn hidden() -> Int { }
`, `module lib; use dark;
data List<T> { nil, cons(T, Box<List<T>>) };
data Pair { pair(Int, Box<Int>) } drop 5;
trait Size;
fn sizePair(x: &Pair) -> Int { }
fn sizeBox<T>(x: &Box<T>) -> Int where T: Size { }
impl Size for Pair = sizePair;
impl<T> Size for Box<T> where T: Size = sizeBox;
fn need<T>(x: T) -> T where T: Size { }
`}

// own is the beginning of the module with the function that is tested.
const own = `module m; use lib;
data Map<K, V> { map(K, Chan<V>) };
data Two { left(Int), right };
data Wide<A, B, C> { wide(B, Chan<A>, C) };
data Deep<T> { deep(Box<Box<Box<Box<Box<Box<Box<T>>>>>>>) };
data Quad<A, B, C, D> { quad(A, B, C, D) };
trait Show;
fn showInt(x: &Int) -> Int { }
impl Show for Int = showInt;
impl Show for Pair = sizePair;
fn id<T>(x: T) -> T { }
fn none<T>() -> Int { }
fn both<A, B>(x: A, y: Box<B>) -> B where B: Size, A: Show, B: Show { }
fn ref(x: &Int) -> Int { }
fn give(x: &Int) -> &Int { }
fn swap<A, B>(x: A, y: B, z: Chan<B>) -> Map<B, A> { }
fn zone(x: Arena) -> Int { }
fn pick(x: &Int, y: Int) -> Int { }
`

// subject is a function of a program, with its declaration and the offset of a mark in it.
type subject struct {
	p    api.Program
	fn   int
	f    api.FuncDef
	mark int
}

// read reads a function after the other declarations of its module. A mark @ is left out; it says where an error has to be found.
func read(t testing.TB, function string) subject {
	t.Helper()
	last := own + strings.Replace(function, "@", "", 1)
	var l []api.Module
	for _, s := range append(append([]string(nil), sources...), last) {
		m, err, at := parser.Parse(s)
		if err != api.OK {
			t.Fatalf("%s\nis no module: error %d at %d", s, err, at)
		}
		l = append(l, m)
	}
	p, err, where := resolve.Tables(l)
	if err != api.OK {
		t.Fatalf("%s: error %d at %v", last, err, where)
	}
	functions := l[len(l)-1].Funcs
	mark := 0
	if at := strings.Index(function, "@"); at >= 0 {
		mark = len(own) + at
	}
	return subject{p, len(p.Funcs) - 1, functions[len(functions)-1], mark}
}

// with returns the same function with another body.
func (s subject) with(body []api.Stmt) subject {
	s.f.Body = body
	return s
}
