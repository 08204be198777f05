package lower

import (
	"fmt"
	"maps"
	"slices"
	"strings"
	"testing"

	"leasehold/api"
)

// few checks that each outcome of a test was there often enough.
func few[K comparable](t *testing.T, count map[K]int, least int, outcomes ...K) {
	t.Helper()
	for _, x := range outcomes {
		if count[x] < least {
			t.Errorf("only %d cases of %v", count[x], x)
		}
	}
}

// run executes nodes, or blocks, with decisions: those that are given, and 0 when there are no more. Its trace has the instructions and the decisions; it is broken off when there are many.
type run struct {
	decisions []int
	trace     []string
}

func (r *run) note(words ...any) { r.trace = append(r.trace, fmt.Sprint(words...)) }

func (r *run) long() bool { return len(r.trace) >= 60 }

// decide returns the next decision, for a number of ways.
func (r *run) decide(a, ways int) int {
	d := 0
	if len(r.decisions) > 0 {
		d, r.decisions = r.decisions[0]%ways, r.decisions[1:]
	}
	r.note("decides on ", a, " of ", ways, ": ", d)
	return d
}

// nodes executes a list, and says whether its end is reached.
func (r *run) nodes(list []api.Node) bool {
	for i := 0; i < len(list); i++ {
		if r.long() || !r.node(list[i]) {
			return false
		}
	}
	return !r.long()
}

func (r *run) node(n api.Node) bool {
	switch n.Kind {
	case api.NdIns:
		r.note(n.Ins)
		return true
	case api.NdIf:
		return r.nodes([][]api.Node{n.Else, n.Then}[r.decide(n.A, 2)])
	case api.NdWhile:
		for r.decide(n.A, 2) == 1 {
			if !r.nodes(n.Then) {
				return false
			}
		}
		return true
	case api.NdMatch:
		return r.nodes(n.Arms[r.decide(n.A, len(n.Arms))])
	case api.NdReturn:
		r.note("returns ", n.A)
		return false
	}
	r.note("panics")
	return false
}

// blocks executes blocks, as the terminators are described by package api.
func (r *run) blocks(l []api.Block) {
	b := l[0]
	for !r.long() {
		for _, x := range b.Code {
			if !r.long() {
				r.note(x)
			}
		}
		if r.long() {
			return
		}
		switch e := b.End; e.Kind {
		case api.TermJump:
			b = l[e.Targets[0]]
		case api.TermBranch:
			b = l[e.Targets[1-r.decide(e.A, 2)]]
		case api.TermSwitch:
			b = l[e.Targets[r.decide(e.A, len(e.Targets))]]
		case api.TermReturn:
			r.note("returns ", e.A)
			return
		case api.TermPanic:
			r.note("panics")
			return
		}
	}
}

// checkRun checks P10.2 for some decisions. For a list that is left, it only says whether its end is reached.
func checkRun(t testing.TB, list []api.Node, blocks []api.Block, decisions []int) (atEnd bool) {
	t.Helper()
	a, b := run{decisions: decisions}, run{decisions: decisions}
	atEnd = a.nodes(list)
	if len(blocks) == 0 {
		return atEnd
	}
	b.blocks(blocks)
	if atEnd || !slices.Equal(a.trace, b.trace) {
		t.Fatalf("%+v\nwith %v\n does %q\nblocks %s\n   do %q", list, decisions, a.trace, blocksText(blocks), b.trace)
	}
	return false
}

// reached returns the blocks that can be reached from the block 0.
func reached(blocks []api.Block) map[int]bool {
	seen, waiting := map[int]bool{0: true}, []int{0}
	for ; len(waiting) > 0; waiting = waiting[1:] {
		for _, x := range blocks[waiting[0]].End.Targets {
			if !seen[x] {
				seen[x] = true
				waiting = append(waiting, x)
			}
		}
	}
	return seen
}

// checkShape checks P10.3.
func checkShape(t testing.TB, blocks []api.Block) {
	t.Helper()
	leading := map[int]int{}
	for _, b := range blocks {
		for _, x := range b.End.Targets {
			leading[x]++
		}
	}
	if len(reached(blocks)) != len(blocks) || leading[0] > 0 {
		t.Fatalf("blocks that cannot be reached, or the block 0 as a target: %s", blocksText(blocks))
	}
	for _, b := range blocks {
		for _, x := range b.End.Targets {
			if b.End.Kind != api.TermJump && leading[x] != 1 {
				t.Fatalf("%d is a target twice: %s", x, blocksText(blocks))
			}
		}
	}
}

// spots returns where the instructions of blocks stand. They have different numbers.
func spots(t testing.TB, blocks []api.Block) map[int]api.Point {
	t.Helper()
	places := map[int]api.Point{}
	for i, b := range blocks {
		for k, x := range b.Code {
			if _, ok := places[x.N]; ok {
				t.Fatalf("%d stands twice: %s", x.N, blocksText(blocks))
			}
			places[x.N] = api.Point{Block: i, Index: k}
		}
	}
	return places
}

// checkOnce checks P10.4 for a list that is numbered.
func checkOnce(t testing.TB, list []api.Node, blocks []api.Block) {
	t.Helper()
	places := spots(t, blocks)
	missing := maps.Clone(places)
	var check func(list []api.Node)
	check = func(list []api.Node) {
		last := api.Point{Block: -1}
		for _, n := range lowered(list) {
			if n.Kind == api.NdIns {
				at, ok := places[n.Ins.N]
				if !ok || at.Block < last.Block || at.Block == last.Block && at.Index <= last.Index {
					t.Fatalf("%+v\n%d stands nowhere, or before %v: %s", list, n.Ins.N, last, blocksText(blocks))
				}
				last = at
				delete(missing, n.Ins.N)
			}
			for _, p := range usedParts(n, "") {
				check(p.list)
			}
		}
	}
	check(list)
	if len(missing) > 0 {
		t.Fatalf("%+v\nhas not %v: %s", list, missing, blocksText(blocks))
	}
}

// hasCycle says whether there is a cycle of blocks without some of them.
func hasCycle(blocks []api.Block, without map[int]bool) bool {
	left := map[int]bool{}
	for i := range blocks {
		left[i] = !without[i]
	}
	for again := true; again; {
		again = false
		for i, b := range blocks {
			if left[i] && !slices.ContainsFunc(b.End.Targets, func(x int) bool { return left[x] }) {
				left[i], again = false, true
			}
		}
	}
	return slices.Contains(slices.Collect(maps.Values(left)), true)
}

// checkEnds checks P10.5 for a list that is numbered.
func checkEnds(t testing.TB, list []api.Node, blocks []api.Block) {
	t.Helper()
	loops, arms := map[int]bool{}, map[int]int{}
	allNodes(list, 1, func(n api.Node, _ int) {
		loops[n.A] = n.Kind == api.NdWhile
		arms[n.A] = len(n.Arms)
	})
	headers := map[int]bool{}
	for i, b := range blocks {
		targets, ok := map[int]int{api.TermJump: 1, api.TermBranch: 2, api.TermSwitch: arms[b.End.A], api.TermReturn: 0, api.TermPanic: 0}[b.End.Kind]
		if !ok || len(b.End.Targets) != targets {
			t.Fatalf("%d has no end: %s", i, blocksText(blocks))
		}
		if b.End.Kind == api.TermBranch && loops[b.End.A] {
			headers[i] = true
		}
	}
	if hasCycle(blocks, headers) {
		t.Fatalf("a cycle without a header: %s", blocksText(blocks))
	}
	if !slices.Contains(slices.Collect(maps.Values(loops)), true) && len(headers) > 0 {
		t.Fatalf("a header without a loop: %s", blocksText(blocks))
	}
}

// checkLower checks P10.1 for a list, and P10.3 for its blocks, and returns the outcome.
func checkLower(t testing.TB, list []api.Node) string {
	t.Helper()
	before := fmt.Sprintf("%+v", list)
	blocks, err := Lower(api.Typed{Locals: []api.Type{{Kind: api.TyInt}}, Body: list})
	if fmt.Sprintf("%+v", list) != before {
		t.Fatalf("the argument was changed: %s", before)
	}
	got := resultText(blocks, err)
	if rules := complaints(list); len(rules) > 0 {
		if word, _, _ := strings.Cut(rules[0], ":"); got != word {
			t.Fatalf("%s\n got %s\nwant %s", before, got, rules[0])
		}
		return got
	}
	if want := describeBlocks(list); err != api.OK || !equal(blocks, want) {
		t.Fatalf("%s\n got %s\nwant %s", before, got, blocksText(want))
	}
	checkShape(t, blocks)
	return "OK"
}

// checkNumbered checks P10.4 and P10.5 for a list in which all nodes get different numbers, and returns it with its blocks; none if it has an error.
func checkNumbered(t testing.TB, list []api.Node) (with []api.Node, blocks []api.Block) {
	t.Helper()
	with = numbered(list)
	blocks, err := Lower(body(with))
	if err == api.OK {
		checkOnce(t, with, blocks)
		checkEnds(t, with, blocks)
	}
	return with, blocks
}

// allDecisions yields all lists of decisions among three ways.
func allDecisions(length int, yield func([]int)) {
	if length == 0 {
		yield(nil)
		return
	}
	allDecisions(length-1, func(l []int) {
		for d := range 3 {
			yield(append(slices.Clone(l), d))
		}
	})
}

// P10.1 to P10.6: all small lists, with all decisions.
func TestSmallLists(t *testing.T) {
	count := map[string]int{}
	for nodes := range 5 {
		var decisions [][]int
		allDecisions(nodes, func(l []int) { decisions = append(decisions, l) })
		smallLists(nodes, func(list []api.Node) {
			got := checkLower(t, list)
			with, blocks := checkNumbered(t, list)
			left := false
			for _, l := range decisions {
				left = checkRun(t, with, blocks, l) || left
			}
			if left != (got == "!end") {
				t.Fatalf("%+v\nis left: %v, but %s", list, left, got)
			}
			count[got]++
		})
	}
	few(t, count, 5000, "OK", "!end")
}

// checkRandom checks all promises for a random list and random decisions.
func checkRandom(t testing.TB, m *maker, list []api.Node) string {
	t.Helper()
	got := checkLower(t, list)
	if got == "!arg" {
		return got
	}
	with, blocks := checkNumbered(t, list)
	for range 10 {
		var decisions []int
		for range m.IntN(30) {
			decisions = append(decisions, m.IntN(12))
		}
		if checkRun(t, with, blocks, decisions) && got != "!end" {
			t.Fatalf("%+v\nis left, but %s", list, got)
		}
	}
	return got
}

// P10.1 to P10.6: random lists, also of very many nodes.
func TestRandomLists(t *testing.T) {
	count := map[string]int{}
	m := seeded(1)
	for i := range 3000 {
		m.ends, m.fields, m.wrong = 2+m.IntN(30), i%2 == 0, 0
		if i%5 == 0 {
			m.wrong = 5 + m.IntN(60)
		}
		list := m.body(1+m.IntN(9), m.IntN(6))
		got := checkRandom(t, m, list)
		count[got]++
		if n := size(list); got == "OK" && n > 50 {
			count["many"]++
		}
	}
	few(t, count, 150, "OK", "!arg", "!end", "many")
	few(t, count, 40, "!limit")
}

// FuzzLower checks all promises for random lists.
func FuzzLower(f *testing.F) {
	f.Add(uint64(0), 5, 3, 0, false)
	f.Add(uint64(1), 8, 5, 50, true)
	f.Fuzz(func(t *testing.T, seed uint64, most, levels, wrong int, fields bool) {
		m := seeded(seed)
		m.wrong, m.fields = max(wrong, 0), fields
		list := m.body(min(max(most, 0), 9), min(max(levels, 0), 6))
		if size(list) < 20000 {
			checkRandom(t, m, list)
		}
	})
}
