package lower

import (
	"math/rand/v2"
	"reflect"
	"slices"
	"testing"
	"time"

	"leasehold/api"
)

// levels are as many as a program can have.
const levels = 60000

// soon fails if something takes far longer than it has to.
func soon(t *testing.T, name string, f func()) {
	t.Helper()
	start := time.Now()
	f()
	if d := time.Since(start); d > 20*time.Second {
		t.Errorf("%s takes %v", name, d)
	}
}

// gives checks what Lower returns for a list that is too large for the description.
func gives(t *testing.T, name string, list []api.Node, want string) {
	t.Helper()
	soon(t, name, func() {
		if got := resultText(Lower(body(list))); got != want {
			t.Errorf("%s: %s, want %s", name, got, want)
		}
	})
}

// P0.1: nodes that are nested as deep as a program can be, and such as contain themselves.
func TestVeryDeep(t *testing.T) {
	eachHolder(func(hold func(list ...api.Node) api.Node, _ bool) {
		deep := nested(levels, returns, hold)
		gives(t, "very deep", []api.Node{deep, returns}, "!arg")
		gives(t, "very deep, not lowered", []api.Node{returns, deep}, "!arg")
		endless := make([]api.Node, 3)
		endless[0], endless[2] = api.Node{Kind: api.NdIns}, returns
		node := hold(endless...)
		for _, part := range slices.Concat([][]api.Node{node.Then, node.Else}, node.Arms) {
			if len(part) == 3 {
				part[1] = node
			}
		}
		gives(t, "endless", []api.Node{node, returns}, "!arg")
	})
}

// P0.1: very many nodes, blocks and instructions.
func TestVeryMany(t *testing.T) {
	const n = 200000
	ending := []api.Node{returns}
	for name, list := range map[string][]api.Node{
		"instructions": constants(n),
		"loops":        slices.Repeat(read("while 1 { OpConst 2 }"), n),
		"matches":      slices.Repeat(read("match 1 { OpConst 2 } { return 3 }"), n),
		"branches":     slices.Repeat(read("if 1 { OpConst 2 } else { panic }"), n),
		"in a part":    {holder(api.NdWhile, 0, slices.Repeat(read("if 1 { } else { }; OpConst 2"), n))},
		"arms":         {{Kind: api.NdMatch, Arms: make([][]api.Node, n)}},
	} {
		gives(t, name, list, "!end")
		gives(t, name+", not left", slices.Concat(list, ending), "!limit")
		gives(t, name+", not lowered", slices.Concat(ending, list), "0: Return 1")
		gives(t, name+", and a wrong one", slices.Concat(list, ending, []api.Node{{Kind: 9}}), "!arg")
	}
	arms := slices.Repeat([][]api.Node{ending}, n)
	gives(t, "arms that are not left", []api.Node{{Kind: api.NdMatch, Arms: arms}}, "!limit")
	gives(t, "arms of which the last one is left", []api.Node{{Kind: api.NdMatch, Arms: append(arms, nil)}}, "!end")
}

// P0.1: types in types, and very many arguments.
func TestGreatInstructions(t *testing.T) {
	deep := api.Type{Kind: api.TyInt, Id: 7}
	for range levels {
		deep = api.Type{Kind: api.TyBox, Args: []api.Type{deep}}
	}
	const n = 1000000
	args := make([]int, n)
	args[n-1] = 5
	list := []api.Node{{Kind: api.NdIns, Ins: api.Ins{Op: api.OpCall, Args: args, Types: []api.Type{{Kind: api.TyInt}, deep}}}, returns}
	soon(t, "a great instruction", func() {
		blocks, err := Lower(body(list))
		if err != api.OK || len(blocks) != 1 || len(blocks[0].Code) != 1 {
			t.Fatal(err, len(blocks))
		}
		x, found := blocks[0].Code[0], 0
		if !slices.Equal(x.Args, args) || len(x.Types) != 2 {
			t.Error("the instruction has changed")
		}
		for inside := x.Types[1]; ; found++ {
			if len(inside.Args) == 0 {
				if inside.Id != 7 || found != levels {
					t.Errorf("%+v after %d levels", inside, found)
				}
				break
			}
			inside = inside.Args[0]
		}
	})
}

// P10.1: numbers are taken as they stand.
func TestAnyNumbers(t *testing.T) {
	for _, n := range []int{-1 << 63, -1, 0, 1 << 40, 1<<63 - 1} {
		list := read("OpConst 1; if 1 { while 1 { match 1 { return 1 } { panic } } } else { }; return 1")
		eachNode(list, func(node *api.Node) {
			node.A = n
			node.Ins = api.Ins{Op: n, Dst: n, A: n, B: n, N: n, Args: []int{n, n}, Types: []api.Type{{Kind: n, Id: n}}}
		})
		if got := checkLower(t, list); got != "OK" {
			t.Errorf("%d: %s", n, got)
		}
	}
}

// change sets one part of a body to another value, or changes the length of a list.
func change(l *[]api.Node, values map[reflect.Type][]reflect.Value, r *rand.Rand) {
	var parts []reflect.Value
	eachPart(reflect.ValueOf(l).Elem(), func(v reflect.Value) { parts = append(parts, v) })
	v := parts[r.IntN(len(parts))]
	if v.Kind() == reflect.Slice && r.IntN(2) == 0 {
		others := values[v.Type().Elem()]
		v.Set(reflect.Append(v, cloned(others[r.IntN(len(others))])))
		return
	}
	others := values[v.Type()]
	v.Set(cloned(others[r.IntN(len(others))]))
}

// tour has all kinds of nodes, with all kinds in them.
const tour = "OpConst 1; while 2 { if 3 { match 4 { return 5 } { OpConst 6 } } else { while 7 { panic } } }; match 8 { if 9 { return 1 } else { panic }; OpConst 2 } { while 3 { }; OpConst 4; OpConst 5 } { match 6 { panic } }; OpConst 7; if 8 { } else { OpConst 9 }; return 9"

// P0.1: bodies of any parts; the description says what comes of them.
func TestAnyBodies(t *testing.T) {
	start := read(tour)
	m := seeded(3)
	eachNode(start, func(n *api.Node) { n.Ins = m.instruction() })
	values := map[reflect.Type][]reflect.Value{}
	eachPart(reflect.ValueOf(&start).Elem(), func(v reflect.Value) {
		values[v.Type()] = append(values[v.Type()], cloned(v), reflect.Zero(v.Type()))
	})
	for _, n := range []int{-1 << 63, -1, 0, 1, 2, 3, 4, 5, 6, 7, 1<<63 - 1} {
		values[reflect.TypeFor[int]()] = append(values[reflect.TypeFor[int]()], slices.Repeat([]reflect.Value{reflect.ValueOf(n)}, 20)...)
	}
	count := map[string]int{}
	for i := range 100 {
		list := clone(start[:len(start)-i%2])
		for range 15 {
			next := clone(list)
			change(&next, values, m.Rand)
			if size(next) > 2000 {
				break
			}
			got := checkRandom(t, m, next)
			count[got]++
			if got == "OK" || m.IntN(4) == 0 {
				list = next
			}
		}
	}
	few(t, count, 50, "OK", "!arg", "!end")
}

// Rule: a result shares no memory with the argument, and none of its lists shares memory with another one.
func TestMemory(t *testing.T) {
	list := read(tour)
	m := seeded(5)
	shared := []int{1, 2, 3}
	eachNode(list, func(n *api.Node) {
		n.Ins = m.instruction()
		n.Ins.Args = shared
	})
	before := clone(list)
	blocks, err := Lower(body(list))
	if err != api.OK {
		t.Fatal(err)
	}
	type span struct{ from, to uintptr }
	var spans []span
	note := func(v reflect.Value) {
		if v.Kind() == reflect.Slice && v.Cap() > 0 {
			spans = append(spans, span{v.Pointer(), v.Pointer() + uintptr(v.Cap())*v.Type().Elem().Size()})
		}
	}
	eachPart(reflect.ValueOf(&blocks).Elem(), note)
	if len(spans) < 30 {
		t.Errorf("only %d lists", len(spans))
	}
	own := len(spans)
	eachPart(reflect.ValueOf(&list).Elem(), note)
	for i, a := range spans[:own] {
		for k, b := range spans {
			if k != i && a.from < b.to && b.from < a.to {
				t.Fatal("two lists share memory")
			}
		}
	}
	want := clone(blocks)
	eachPart(reflect.ValueOf(&list).Elem(), func(v reflect.Value) {
		if v.Kind() == reflect.Int {
			v.SetInt(-7)
		}
	})
	if !equal(blocks, want) {
		t.Errorf("the result became %s", blocksText(blocks))
	}
	if again, _ := Lower(body(before)); !equal(again, want) {
		t.Errorf("another call returns %s", blocksText(again))
	}
}
