package lower

import (
	"slices"
	"strconv"

	"leasehold/api"
)

// This file describes lowering a second time, by the words of the chapter: blocks have names, by the nodes for which they are made; where a node stands follows from the nodes before it in its list, and the numbers of blocks from a list of all names.

// part is a part of a node: a list, the name of the block from which it is lowered, and whether that is what the Kind of the node says.
type part struct {
	list  []api.Node
	begin string
	used  bool
}

// partsOf returns all parts of the node with a name.
func partsOf(n api.Node, name string) []part {
	parts := []part{
		{n.Then, name + ".then", n.Kind == api.NdIf || n.Kind == api.NdWhile},
		{n.Else, name + ".else", n.Kind == api.NdIf},
	}
	for i, arm := range n.Arms {
		parts = append(parts, part{arm, name + ".arm" + strconv.Itoa(i), n.Kind == api.NdMatch})
	}
	return parts
}

// usedParts returns the parts of a node that are lowered.
func usedParts(n api.Node, name string) []part {
	return slices.DeleteFunc(partsOf(n, name), func(p part) bool { return !p.used })
}

// passed says whether the nodes behind a node are lowered.
func passed(n api.Node) bool {
	switch n.Kind {
	case api.NdReturn, api.NdPanic:
		return false
	case api.NdIf, api.NdMatch:
		return slices.ContainsFunc(usedParts(n, ""), func(p part) bool { return isLeft(p.list) })
	}
	return true
}

func isLeft(list []api.Node) bool {
	return !slices.ContainsFunc(list, func(n api.Node) bool { return !passed(n) })
}

// lowered returns the nodes of a list that are lowered.
func lowered(list []api.Node) []api.Node {
	if last := slices.IndexFunc(list, func(n api.Node) bool { return !passed(n) }); last >= 0 {
		return list[:last+1]
	}
	return list
}

// nameOf returns the name of a node in the list that is lowered from a block.
func nameOf(begin string, i int) string { return begin + "/" + strconv.Itoa(i) }

// where returns the block in which the node with an index stands, if a list is lowered from a block; with the length of the list, the one in which it is left.
func where(list []api.Node, begin string, i int) string {
	for i--; i >= 0; i-- {
		switch list[i].Kind {
		case api.NdIf, api.NdMatch, api.NdWhile:
			return nameOf(begin, i) + ".behind"
		}
	}
	return begin
}

// newBlocks lists the blocks that are made for a list, in order.
func newBlocks(list []api.Node, begin string) (names []string) {
	for i, n := range lowered(list) {
		name := nameOf(begin, i)
		if n.Kind == api.NdWhile {
			names = append(names, name+".header", name+".then", name+".behind")
		}
		for _, p := range usedParts(n, name) {
			if n.Kind != api.NdWhile {
				names = append(names, p.begin)
			}
		}
		for _, p := range usedParts(n, name) {
			names = append(names, newBlocks(p.list, p.begin)...)
		}
		if (n.Kind == api.NdIf || n.Kind == api.NdMatch) && passed(n) {
			names = append(names, name+".behind")
		}
	}
	return names
}

// plan is a function in blocks with names.
type plan struct {
	names []string
	code  map[string][]api.Ins
	ends  map[string]api.Term
}

func (p *plan) end(block string, kind, a int, targets ...string) {
	e := api.Term{Kind: kind, A: a}
	for _, name := range targets {
		e.Targets = append(e.Targets, slices.Index(p.names, name))
	}
	p.ends[block] = e
}

// put puts a list into the blocks.
func (p *plan) put(list []api.Node, begin string) {
	for i, n := range lowered(list) {
		at, name := where(list, begin, i), nameOf(begin, i)
		var begins []string
		for _, x := range usedParts(n, name) {
			begins = append(begins, x.begin)
			p.put(x.list, x.begin)
			if isLeft(x.list) {
				to := name + ".behind"
				if n.Kind == api.NdWhile {
					to = name + ".header"
				}
				p.end(where(x.list, x.begin, len(x.list)), api.TermJump, 0, to)
			}
		}
		switch n.Kind {
		case api.NdIns:
			p.code[at] = append(p.code[at], n.Ins)
		case api.NdIf:
			p.end(at, api.TermBranch, n.A, begins...)
		case api.NdWhile:
			p.end(at, api.TermJump, 0, name+".header")
			p.end(name+".header", api.TermBranch, n.A, begins[0], name+".behind")
		case api.NdMatch:
			p.end(at, api.TermSwitch, n.A, begins...)
		case api.NdReturn:
			p.end(at, api.TermReturn, n.A)
		case api.NdPanic:
			p.end(at, api.TermPanic, 0)
		}
	}
}

// describeBlocks returns the blocks of a body, whether or not it is left, and however many they are.
func describeBlocks(list []api.Node) (blocks []api.Block) {
	p := &plan{names: append([]string{"0"}, newBlocks(list, "0")...), code: map[string][]api.Ins{}, ends: map[string]api.Term{}}
	p.put(list, "0")
	for _, name := range p.names {
		blocks = append(blocks, api.Block{Code: p.code[name], End: p.ends[name]})
	}
	return blocks
}

// allNodes calls a function for each node of a list and its parts, whatever their Kinds, with its depth.
func allNodes(list []api.Node, depth int, visit func(n api.Node, depth int)) {
	for _, n := range list {
		visit(n, depth)
		for _, p := range partsOf(n, "") {
			allNodes(p.list, depth+1, visit)
		}
	}
}

// complaints lists the sentences of the chapter that a body breaks: first those for ErrArg, then for ErrEnd, then for ErrLimit.
func complaints(list []api.Node) (rules []string) {
	add := func(wrong bool, rule string) {
		if wrong && !slices.Contains(rules, rule) {
			rules = append(rules, rule)
		}
	}
	right := true
	allNodes(list, 1, func(n api.Node, depth int) {
		add(n.Kind < api.NdIns || n.Kind > api.NdPanic, "!arg: no Kind")
		add(n.Kind == api.NdMatch && len(n.Arms) == 0, "!arg: no arms")
		add(depth > 60, "!arg: too deep")
		right = len(rules) == 0
	})
	if !right {
		return rules
	}
	add(isLeft(list), "!end: left")
	blocks := describeBlocks(list)
	add(len(blocks) > 200, "!limit: blocks")
	add(slices.ContainsFunc(blocks, func(b api.Block) bool { return len(b.Code) > 400 }), "!limit: instructions")
	return rules
}
