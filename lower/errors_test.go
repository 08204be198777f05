package lower

import (
	"slices"
	"strconv"
	"strings"
	"testing"

	"leasehold/api"
)

// kinds are the Kinds of nodes.
func kinds() []int {
	return []int{api.NdIns, api.NdIf, api.NdWhile, api.NdMatch, api.NdReturn, api.NdPanic}
}

// holder returns a node of a Kind with a list in one of four parts, whether or not its Kind uses it.
func holder(kind, part int, list []api.Node) api.Node {
	n := api.Node{Kind: kind}
	switch part {
	case 0:
		n.Then = list
	case 1:
		n.Else = list
	case 2:
		n.Arms = [][]api.Node{list}
	case 3:
		n.Arms = [][]api.Node{nil, list, nil}
	}
	if kind == api.NdMatch && len(n.Arms) == 0 {
		n.Arms = [][]api.Node{nil}
	}
	return n
}

// eachHolder calls a test for all Kinds and parts, and says for them whether the part is used.
func eachHolder(test func(hold func(list ...api.Node) api.Node, used bool)) {
	for _, kind := range kinds() {
		for part := range 4 {
			used := kind == api.NdIf && part < 2 || kind == api.NdWhile && part == 0 || kind == api.NdMatch && part > 1
			test(func(list ...api.Node) api.Node { return holder(kind, part, list) }, used)
		}
	}
}

// wrongNodes are those for which there is ErrArg wherever they stand.
func wrongNodes() []api.Node {
	var l []api.Node
	for _, kind := range []int{0, -1, 7, 8, 1 << 40, -1 << 63, 1<<63 - 1} {
		l = append(l, api.Node{Kind: kind})
	}
	return append(l, api.Node{Kind: api.NdMatch}, api.Node{Kind: api.NdMatch, Arms: [][]api.Node{}}, api.Node{Kind: api.NdMatch, Then: read("return 1"), Else: read("return 1")})
}

// is checks the error of a list.
func is(t *testing.T, name string, list []api.Node, want string) {
	t.Helper()
	got := checkLower(t, list)
	if got != want {
		t.Errorf("%s: %s, want %s", name, got, want)
	}
}

var returns = api.Node{Kind: api.NdReturn, A: 1}

// P10.1: nodes that are not right, in all parts of nodes of all Kinds, and where nothing is lowered.
func TestWrongNodes(t *testing.T) {
	right := api.Node{Kind: api.NdIns}
	for _, wrong := range wrongNodes() {
		is(t, "alone", []api.Node{wrong}, "!arg")
		is(t, "before a return", []api.Node{wrong, returns}, "!arg")
		is(t, "behind a return", []api.Node{returns, right, wrong}, "!arg")
		is(t, "behind a panic", []api.Node{{Kind: api.NdPanic}, wrong, right}, "!arg")
		is(t, "behind parts that are not left", append(read("if 1 { return 2 } else { panic }; while 3 { }"), wrong), "!arg")
		eachHolder(func(hold func(list ...api.Node) api.Node, used bool) {
			is(t, "in a part", []api.Node{hold(wrong), returns}, "!arg")
			is(t, "in a part behind a return", []api.Node{returns, hold(returns, right, wrong)}, "!arg")
			is(t, "in a part that is not lowered", []api.Node{returns, right, hold(right, wrong, right)}, "!arg")
			eachHolder(func(inner func(list ...api.Node) api.Node, _ bool) {
				is(t, "in a part of a part", []api.Node{right, hold(right, inner(wrong)), returns}, "!arg")
			})
		})
	}
	eachHolder(func(hold func(list ...api.Node) api.Node, _ bool) {
		if got := checkLower(t, []api.Node{hold(right), returns}); got != "OK" {
			t.Errorf("%+v: %s", hold(right), got)
		}
	})
}

// nested puts a number of nodes into each other, all but the innermost one in the same part.
func nested(n int, innermost api.Node, hold func(list ...api.Node) api.Node) api.Node {
	for range n - 1 {
		innermost = hold(innermost)
	}
	return innermost
}

// P10.1: nodes that are 60 and 61 deep, in all parts.
func TestDepth(t *testing.T) {
	eachHolder(func(hold func(list ...api.Node) api.Node, used bool) {
		for _, innermost := range []api.Node{{Kind: api.NdIns}, returns, hold()} {
			for n, want := range map[int]string{1: "OK", 2: "OK", 59: "OK", 60: "OK", 61: "!arg", 62: "!arg", 200: "!arg"} {
				node := nested(n, innermost, hold)
				is(t, strconv.Itoa(n)+" deep, not lowered", []api.Node{returns, returns, node, {Kind: api.NdIns}}, want)
				if got := checkLower(t, []api.Node{node, returns}); (got == "!arg") != (want == "!arg") {
					t.Errorf("%d deep: %s", n, got)
				}
			}
		}
		if used {
			is(t, "60 deep, and left", []api.Node{nested(60, api.Node{Kind: api.NdIns}, hold)}, "!end")
		}
	})
	// different Kinds and parts, one behind the other
	var holders []func(list ...api.Node) api.Node
	eachHolder(func(hold func(list ...api.Node) api.Node, _ bool) { holders = append(holders, hold) })
	for n, want := range map[int]string{60: "OK", 61: "!arg"} {
		node := api.Node{Kind: api.NdIns}
		for i := range n - 1 {
			node = holders[i%len(holders)](api.Node{Kind: api.NdIns}, node)
		}
		is(t, strconv.Itoa(n)+" deep in all parts", []api.Node{node, returns}, want)
	}
}

// P10.1: of several errors, the first one.
func TestOrderOfErrors(t *testing.T) {
	blocks, code, wrong := many(201), constants(401), api.Node{Kind: 7}
	deep := nested(61, returns, func(list ...api.Node) api.Node { return holder(api.NdIf, 1, list) })
	is(t, "left", []api.Node{}, "!end")
	for _, large := range [][]api.Node{nil, blocks, code, slices.Concat(code, blocks)} {
		for _, bad := range []api.Node{wrong, deep, {Kind: api.NdMatch}} {
			is(t, "wrong and left", append(slices.Clone(large), bad), "!arg")
			is(t, "wrong, large and left", append([]api.Node{bad}, large...), "!arg")
			is(t, "wrong and large", append(slices.Clone(large), returns, bad), "!arg")
		}
		is(t, "left and large", large, "!end")
	}
	for _, large := range [][]api.Node{blocks, code, slices.Concat(blocks, code), slices.Concat(code, blocks)} {
		for nodes, want := range map[string]string{
			"": "!end", "return 1": "!limit", "panic": "!limit", "OpConst 1": "!end", "while 1 { return 2 }": "!end", "while 1 { return 2 }; return 3": "!limit",
			"if 1 { return 2 } else { }": "!end", "if 1 { } else { return 2 }": "!end", "if 1 { return 2 } else { panic }": "!limit", "if 1 { return 2 } else { while 3 { } }": "!end",
			"match 1 { return 2 } { return 3 } { }": "!end", "match 1 { } { return 2 }": "!end", "match 1 { return 2 } { panic } { while 3 { }; return 4 }": "!limit",
		} {
			is(t, "large, then "+nodes, slices.Concat(large, read(nodes)), want)
		}
		is(t, "large in a part, and left behind it", []api.Node{holder(api.NdIf, 0, append(slices.Clone(large), returns))}, "!end")
		is(t, "large in a part", []api.Node{holder(api.NdIf, 0, append(slices.Clone(large), returns)), returns}, "!limit")
		is(t, "large in a part that is left", []api.Node{{Kind: api.NdIf, Then: large, Else: []api.Node{returns}}}, "!end")
		is(t, "large in all parts", []api.Node{{Kind: api.NdMatch, Arms: [][]api.Node{append(slices.Clone(large), returns), append(slices.Clone(large), returns)}}}, "!limit")
	}
}

func constants(n int) []api.Node { return slices.Repeat([]api.Node{{Kind: api.NdIns}}, n) }

// many returns nodes for which there are in all a number of blocks, at least 3. They are left.
func many(blocks int) []api.Node {
	text := strings.Repeat("match 0 { };", (blocks-1)/2)
	if blocks%2 == 0 {
		text = strings.Repeat("match 0 { };", (blocks-4)/2) + "while 0 { };"
	}
	return read(text)
}

// P10.1: the number of blocks; the last ones are of each kind.
func TestBlocks(t *testing.T) {
	for _, test := range []struct {
		nodes string
		more  int
	}{
		{"return 1", 0}, {"panic", 0}, {"while 1 { }; return 2", 3}, {"while 1 { return 2 }; panic", 3},
		{"if 1 { return 2 } else { return 3 }", 2}, {"if 1 { } else { return 3 }; return 4", 3}, {"if 1 { return 2 } else { }; return 4", 3}, {"if 1 { } else { }; panic", 3},
		{"match 1 { return 2 }", 1}, {"match 1 { }; return 2", 2}, {"match 1 { return 2 } { panic } { return 3 } { return 4 } { panic }", 5}, {"match 1 { } { return 2 } { } { }; return 3", 5},
		{"while 1 { if 2 { return 3 } else { } }; return 4", 6}, {"if 1 { while 2 { }; return 3 } else { while 4 { }; return 5 }", 8}, {"match 1 { while 2 { } } { }; panic", 6},
		{"return 1; while 2 { }; match 3 { } { }", 0}, {"if 1 { panic } else { return 2 }; while 3 { }; while 4 { }", 2},
	} {
		for n := 185; n <= 203; n++ {
			list, want := append(many(n), read(test.nodes)...), "OK"
			if n+test.more > 200 {
				want = "!limit"
			}
			is(t, strconv.Itoa(n)+" blocks, then "+test.nodes, list, want)
			if blocks, err := Lower(body(list)); err == api.OK && len(blocks) != n+test.more {
				t.Errorf("%d blocks, and %s: %d blocks", n, test.nodes, len(blocks))
			}
		}
	}
}

// P10.1: the number of instructions of a block, in all parts.
func TestInstructionsOfABlock(t *testing.T) {
	for n, want := range map[int]string{0: "OK", 1: "OK", 399: "OK", 400: "OK", 401: "!limit", 402: "!limit", 1000: "!limit"} {
		code := constants(n)
		ending := append(constants(n), returns)
		is(t, "in the first block", ending, want)
		is(t, "before a panic", append(constants(n), api.Node{Kind: api.NdPanic}), want)
		is(t, "not lowered", slices.Concat([]api.Node{returns}, ending), "OK")
		is(t, "not lowered, behind 400", slices.Concat(constants(400), []api.Node{returns}, ending), "OK")
		eachHolder(func(hold func(list ...api.Node) api.Node, used bool) {
			expected := "OK"
			if used {
				expected = want
			}
			is(t, "in a part", []api.Node{hold(code...), returns}, expected)
			is(t, "in a part that is not left", []api.Node{hold(ending...), returns}, expected)
			if used {
				is(t, "around a part", slices.Concat(constants(400), []api.Node{hold(constants(400)...)}, ending), want)
				is(t, "before and behind a part", slices.Concat(code, []api.Node{hold()}, ending), want)
			}
		})
	}
	// 400 instructions in each of 200 blocks
	var list []api.Node
	for range 99 {
		list = append(list, constants(400)...)
		list = append(list, holder(api.NdMatch, 2, constants(400)))
	}
	list = append(list, constants(400)...)
	list = append(list, holder(api.NdMatch, 2, append(constants(400), returns)))
	blocks, err := Lower(body(list))
	if err != api.OK || len(blocks) != 200 || slices.ContainsFunc(blocks, func(b api.Block) bool { return len(b.Code) != 400 }) {
		t.Errorf("%d blocks with error %d", len(blocks), err)
	}
}
