package lower

import (
	"strings"
	"testing"

	"leasehold/api"
	"leasehold/check"
	"leasehold/parser"
	"leasehold/resolve"
)

// lowers checks the blocks of nodes, or the error. Both are texts.
func lowers(t *testing.T, nodes, want string) {
	t.Helper()
	list := read(nodes)
	checkLower(t, list)
	checkNumbered(t, list)
	if got := resultText(Lower(body(list))); got != want {
		t.Errorf("%s\n got %s\nwant %s", nodes, got, want)
	}
}

// P10.1: the chapter's examples.
func TestExamples(t *testing.T) {
	lowers(t, "OpConst 0; return 0", "0: OpConst 0, Return 0")
	lowers(t, "if 0 { return 1 } else { }; return 2", "0: Branch 0 to 1, 2; 1: Return 1; 2: Jump 3; 3: Return 2")
	lowers(t, "while 0 { OpConst 0 }; return 0", "0: Jump 1; 1: Branch 0 to 2, 3; 2: OpConst 0, Jump 1; 3: Return 0")
	lowers(t, "if 0 { panic } else { return 1 }; return 2", "0: Branch 0 to 1, 2; 1: Panic; 2: Return 1")
}

// P10.1: each kind of node alone, and before a return.
func TestAlone(t *testing.T) {
	for _, test := range []struct{ node, alone, returning string }{
		{"OpConst 1", "!end", "0: OpConst 1, Return 9"},
		{"if 1 { } else { }", "!end", "0: Branch 1 to 1, 2; 1: Jump 3; 2: Jump 3; 3: Return 9"},
		{"while 1 { }", "!end", "0: Jump 1; 1: Branch 1 to 2, 3; 2: Jump 1; 3: Return 9"},
		{"match 1 { }", "!end", "0: Switch 1 to 1; 1: Jump 2; 2: Return 9"},
		{"match 1 { } { } { }", "!end", "0: Switch 1 to 1, 2, 3; 1: Jump 4; 2: Jump 4; 3: Jump 4; 4: Return 9"},
		{"match 1", "!arg", "!arg"},
		{"return 1", "0: Return 1", "0: Return 1"},
		{"return -1", "0: Return -1", "0: Return -1"},
		{"panic", "0: Panic", "0: Panic"},
	} {
		lowers(t, test.node, test.alone)
		lowers(t, test.node+"; return 9", test.returning)
		lowers(t, "OpConst 3; "+test.node+"; return 9", strings.Replace(test.returning, "0: ", "0: OpConst 3, ", 1))
	}
	lowers(t, "", "!end")
}

// P10.1: each kind of node in each other one. Those of an NdMatch with two arms are those of an NdIf, but for the terminator.
func TestInEachOther(t *testing.T) {
	for _, test := range []struct{ node, inThen, inElse, inWhile string }{
		{"OpConst 1",
			"0: Branch 7 to 1, 2; 1: OpConst 1, Jump 3; 2: OpConst 8, Jump 3; 3: Return 9",
			"0: Branch 7 to 1, 2; 1: OpConst 8, Jump 3; 2: OpConst 1, Jump 3; 3: Return 9",
			"0: Jump 1; 1: Branch 7 to 2, 3; 2: OpConst 1, Jump 1; 3: Return 9"},
		{"if 1 { } else { }",
			"0: Branch 7 to 1, 2; 1: Branch 1 to 3, 4; 2: OpConst 8, Jump 6; 3: Jump 5; 4: Jump 5; 5: Jump 6; 6: Return 9",
			"0: Branch 7 to 1, 2; 1: OpConst 8, Jump 6; 2: Branch 1 to 3, 4; 3: Jump 5; 4: Jump 5; 5: Jump 6; 6: Return 9",
			"0: Jump 1; 1: Branch 7 to 2, 3; 2: Branch 1 to 4, 5; 3: Return 9; 4: Jump 6; 5: Jump 6; 6: Jump 1"},
		{"while 1 { }",
			"0: Branch 7 to 1, 2; 1: Jump 3; 2: OpConst 8, Jump 6; 3: Branch 1 to 4, 5; 4: Jump 3; 5: Jump 6; 6: Return 9",
			"0: Branch 7 to 1, 2; 1: OpConst 8, Jump 6; 2: Jump 3; 3: Branch 1 to 4, 5; 4: Jump 3; 5: Jump 6; 6: Return 9",
			"0: Jump 1; 1: Branch 7 to 2, 3; 2: Jump 4; 3: Return 9; 4: Branch 1 to 5, 6; 5: Jump 4; 6: Jump 1"},
		{"match 1 { }",
			"0: Branch 7 to 1, 2; 1: Switch 1 to 3; 2: OpConst 8, Jump 5; 3: Jump 4; 4: Jump 5; 5: Return 9",
			"0: Branch 7 to 1, 2; 1: OpConst 8, Jump 5; 2: Switch 1 to 3; 3: Jump 4; 4: Jump 5; 5: Return 9",
			"0: Jump 1; 1: Branch 7 to 2, 3; 2: Switch 1 to 4; 3: Return 9; 4: Jump 5; 5: Jump 1"},
		{"return 1",
			"0: Branch 7 to 1, 2; 1: Return 1; 2: OpConst 8, Jump 3; 3: Return 9",
			"0: Branch 7 to 1, 2; 1: OpConst 8, Jump 3; 2: Return 1; 3: Return 9",
			"0: Jump 1; 1: Branch 7 to 2, 3; 2: Return 1; 3: Return 9"},
		{"panic",
			"0: Branch 7 to 1, 2; 1: Panic; 2: OpConst 8, Jump 3; 3: Return 9",
			"0: Branch 7 to 1, 2; 1: OpConst 8, Jump 3; 2: Panic; 3: Return 9",
			"0: Jump 1; 1: Branch 7 to 2, 3; 2: Panic; 3: Return 9"},
	} {
		lowers(t, "if 7 { "+test.node+" } else { OpConst 8 }; return 9", test.inThen)
		lowers(t, "if 7 { OpConst 8 } else { "+test.node+" }; return 9", test.inElse)
		lowers(t, "match 7 { "+test.node+" } { OpConst 8 }; return 9", strings.Replace(test.inThen, "Branch", "Switch", 1))
		lowers(t, "match 7 { OpConst 8 } { "+test.node+" }; return 9", strings.Replace(test.inElse, "Branch", "Switch", 1))
		lowers(t, "while 7 { "+test.node+" }; return 9", test.inWhile)
	}
}

// P10.1: the numbers of blocks in nodes that are nested, or follow each other.
func TestNumbers(t *testing.T) {
	lowers(t, "if 1 { if 2 { } else { }; OpConst 3 } else { while 4 { OpConst 5 } }; return 6",
		"0: Branch 1 to 1, 2; 1: Branch 2 to 3, 4; 2: Jump 6; 3: Jump 5; 4: Jump 5; 5: OpConst 3, Jump 9; 6: Branch 4 to 7, 8; 7: OpConst 5, Jump 6; 8: Jump 9; 9: Return 6")
	lowers(t, "match 1 { while 2 { match 3 { return 4 } { } } } { panic } { if 5 { } else { return 6 } }; OpConst 7; return 8",
		"0: Switch 1 to 1, 2, 3; 1: Jump 4; 2: Panic; 3: Branch 5 to 10, 11; 4: Branch 2 to 5, 6; 5: Switch 3 to 7, 8; 6: Jump 13; 7: Return 4; 8: Jump 9; 9: Jump 4; 10: Jump 12; 11: Return 6; 12: Jump 13; 13: OpConst 7, Return 8")
	lowers(t, "while 1 { OpConst 2; while 3 { while 4 { OpConst 5 }; OpConst 6 }; OpConst 7 }; while 8 { }; panic",
		"0: Jump 1; 1: Branch 1 to 2, 3; 2: OpConst 2, Jump 4; 3: Jump 10; 4: Branch 3 to 5, 6; 5: Jump 7; 6: OpConst 7, Jump 1; 7: Branch 4 to 8, 9; 8: OpConst 5, Jump 7; 9: OpConst 6, Jump 4; 10: Branch 8 to 11, 12; 11: Jump 10; 12: Panic")
	lowers(t, "while 0 { }; if 1 { } else { }; match 2 { } { }; OpConst 3; OpConst 4; return 5",
		"0: Jump 1; 1: Branch 0 to 2, 3; 2: Jump 1; 3: Branch 1 to 4, 5; 4: Jump 6; 5: Jump 6; 6: Switch 2 to 7, 8; 7: Jump 9; 8: Jump 9; 9: OpConst 3, OpConst 4, Return 5")
	lowers(t, "if 1 { if 2 { if 3 { OpConst 4 } else { return 5 } } else { return 6 } } else { return 7 }; return 8",
		"0: Branch 1 to 1, 2; 1: Branch 2 to 3, 4; 2: Return 7; 3: Branch 3 to 5, 6; 4: Return 6; 5: OpConst 4, Jump 7; 6: Return 5; 7: Jump 8; 8: Jump 9; 9: Return 8")
}

// P10.1, P10.4: parts that are not left, and what is behind them.
func TestNotLeft(t *testing.T) {
	lowers(t, "OpConst 1; return 2; OpConst 3; while 4 { OpConst 5 }; return 6", "0: OpConst 1, Return 2")
	lowers(t, "panic; OpConst 3; if 4 { } else { }", "0: Panic")
	lowers(t, "if 1 { return 2 } else { panic }; OpConst 3", "0: Branch 1 to 1, 2; 1: Return 2; 2: Panic")
	lowers(t, "match 1 { return 2 }; OpConst 3", "0: Switch 1 to 1; 1: Return 2")
	lowers(t, "match 1 { return 2 } { panic } { return 3 }; OpConst 4", "0: Switch 1 to 1, 2, 3; 1: Return 2; 2: Panic; 3: Return 3")
	lowers(t, "match 1 { return 2 } { OpConst 3 } { panic }; return 4", "0: Switch 1 to 1, 2, 3; 1: Return 2; 2: OpConst 3, Jump 4; 3: Panic; 4: Return 4")
	lowers(t, "if 1 { OpConst 2; panic; OpConst 3 } else { OpConst 4 }; return 5", "0: Branch 1 to 1, 2; 1: OpConst 2, Panic; 2: OpConst 4, Jump 3; 3: Return 5")
	lowers(t, "if 1 { if 2 { return 3 } else { panic }; OpConst 4 } else { match 5 { return 6 } { return 7 }; while 8 { } }; OpConst 9",
		"0: Branch 1 to 1, 2; 1: Branch 2 to 3, 4; 2: Switch 5 to 5, 6; 3: Return 3; 4: Panic; 5: Return 6; 6: Return 7")
	// the body of a loop that is not left: what is behind the loop is lowered
	lowers(t, "while 1 { return 2; OpConst 3 }; panic", "0: Jump 1; 1: Branch 1 to 2, 3; 2: Return 2; 3: Panic")
	lowers(t, "while 1 { if 2 { return 3 } else { panic }; OpConst 4 }; OpConst 5; return 6", "0: Jump 1; 1: Branch 1 to 2, 3; 2: Branch 2 to 4, 5; 3: OpConst 5, Return 6; 4: Return 3; 5: Panic")
	lowers(t, "while 1 { while 2 { panic }; return 3 }; return 4", "0: Jump 1; 1: Branch 1 to 2, 3; 2: Jump 4; 3: Return 4; 4: Branch 2 to 5, 6; 5: Panic; 6: Return 3")
}

// P10.1, P10.6: a body that is left.
func TestEnd(t *testing.T) {
	for _, nodes := range []string{
		"", "OpConst 1; OpConst 2", "while 1 { return 2 }", "while 1 { panic }", "while 1 { while 2 { return 3 } }",
		"if 1 { return 2 } else { }", "if 1 { } else { return 2 }", "if 1 { panic } else { OpConst 2 }", "if 1 { } else { return 2 }; OpConst 3",
		"match 1 { return 2 } { panic } { }", "match 1 { } { return 2 } { panic }", "match 1 { OpConst 2 }",
		"if 1 { if 2 { return 3 } else { OpConst 4 } } else { panic }", "match 1 { match 2 { return 3 } { while 4 { return 5 } } }",
		"while 1 { OpConst 2 }; if 3 { } else { }; match 4 { } { }",
	} {
		lowers(t, nodes, "!end")
		if got := checkLower(t, read(strings.TrimPrefix(nodes+"; return 9", "; "))); got != "OK" {
			t.Errorf("%s: %s", nodes, got)
		}
	}
}

// others returns parts for nodes whose Kinds do not use them.
func others() (then, other []api.Node, arms [][]api.Node) {
	part := []api.Node{{Kind: api.NdWhile, A: 3, Then: []api.Node{{Kind: api.NdIns, Ins: constant(5)}}}, {Kind: api.NdReturn, A: 4}}
	return part, clone(part), [][]api.Node{clone(part), nil}
}

// P10.1: fields that have no meaning for the Kind of a node, and the locals, change nothing; fields of blocks that are not mentioned are zero.
func TestOtherFields(t *testing.T) {
	const nodes = "OpConst 1; if 2 { OpConst 3 } else { panic }; while 4 { OpConst 5 }; match 6 { OpConst 7 } { return 8 }; return 9"
	list := read(nodes)
	want, _ := Lower(body(list))
	eachNode(list, func(n *api.Node) {
		then, other, arms := others()
		if n.Kind != api.NdIns {
			n.Ins = api.Ins{Op: api.OpCall, Dst: 1, A: 2, B: 3, N: 4, Args: []int{5}, Types: []api.Type{{Kind: api.TyInt}}}
		}
		switch n.Kind {
		case api.NdIf:
			n.Arms = arms
		case api.NdWhile:
			n.Else, n.Arms = other, arms
		case api.NdMatch:
			n.Then, n.Else = then, other
		case api.NdPanic, api.NdIns:
			n.A, n.Then, n.Else, n.Arms = 77, then, other, arms
		case api.NdReturn:
			n.Then, n.Else, n.Arms = then, other, arms
		}
	})
	checkLower(t, list)
	for _, locals := range [][]api.Type{nil, {{}}, make([]api.Type, 1000)} {
		if got, err := Lower(api.Typed{Locals: locals, Body: list}); err != api.OK || !equal(got, want) {
			t.Errorf("got %s\nwant %s", resultText(got, err), blocksText(want))
		}
	}
}

// P10.1: instructions are appended as they are.
func TestInstructions(t *testing.T) {
	m := seeded(4)
	var list []api.Node
	var want []api.Ins
	for range 300 {
		x := m.instruction()
		list, want = append(list, api.Node{Kind: api.NdIns, Ins: x}), append(want, x)
	}
	list = append(list, api.Node{Kind: api.NdPanic, A: 5})
	got, err := Lower(body(list))
	if err != api.OK || !equal(got, []api.Block{{Code: want, End: api.Term{Kind: api.TermPanic}}}) {
		t.Errorf("%+v with error %d", got, err)
	}
}

// program has functions with all kinds of statements.
const program = `module m;
data List<T> { nil, cons(T, Box<List<T>>) };
fn sum(l: List<Int>) -> Int {
  match l { nil { let z = 0; return z; } cons(h, t) { let r = unbox t; let s = sum(r); let n = h + s; return n; } }
}
fn count(l: &List<Int>, most: Int) -> Int {
  let n = 0; let one = 1; let more = n < most;
  while more {
    match l { cons(h, t) { let x = *h; if x { n = n + one; } else { print x; } } nil { return n; } }
    more = n < most;
  }
  return n;
}
fn none(n: Int) -> Int { if n { panic; } else { while n { return n; } } let b = box n; drop b; }
fn never(n: Int) -> Int { if n { panic; } else { return n; } let b = box n; drop b; }`

// checkArms checks that the targets of a switch begin by opening the variants with their numbers, as valid functions do.
func checkArms(t *testing.T, blocks []api.Block) (switches int) {
	t.Helper()
	for _, b := range blocks {
		if b.End.Kind != api.TermSwitch {
			continue
		}
		switches++
		for i, x := range b.End.Targets {
			if first := blocks[x].Code[0]; (first.Op != api.OpOpen && first.Op != api.OpSplit) || first.A != b.End.A || first.B != i {
				t.Errorf("the target %d begins with %+v", i, first)
			}
		}
	}
	return switches
}

// P10.1 to P10.6: functions that were checked.
func TestCheckedFunctions(t *testing.T) {
	m, err, at := parser.Parse(program)
	if err != api.OK {
		t.Fatal(err, at)
	}
	p, err, where := resolve.Tables([]api.Module{m})
	if err != api.OK {
		t.Fatal(err, where)
	}
	switches := 0
	for i, want := range []string{"OK", "OK", "!end", "OK"} {
		typed, err, at := check.Body(p, i, m.Funcs[i])
		if err != api.OK {
			t.Fatal(m.Funcs[i].Name, err, at)
		}
		if got := checkRandom(t, seeded(uint64(i)), typed.Body); got != want {
			t.Errorf("%s: %s, want %s", m.Funcs[i].Name, got, want)
		}
		blocks, _ := Lower(typed)
		switches += checkArms(t, blocks)
	}
	if switches != 2 {
		t.Errorf("%d switches", switches)
	}
}
