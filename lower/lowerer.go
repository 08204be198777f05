package lower

import (
	"slices"

	"leasehold/api"
)

// lowerer lowers the nodes of one function. A limit that is passed is only noted, and lowering goes on, as it decides on ErrEnd, which comes before ErrLimit; blocks and instructions beyond the limits are then not kept.
type lowerer struct {
	rules    map[int]rule
	blocks   []api.Block
	current  int
	tooLarge bool
}

// rule lowers a node of some Kind from the current block on, and reports whether what follows the node is lowered, too: then from the block that is now the current one.
type rule func(l *lowerer, n *api.Node) (left bool)

func rules() map[int]rule {
	return map[int]rule{
		api.NdIns:    (*lowerer).instruction,
		api.NdIf:     (*lowerer).branch,
		api.NdWhile:  (*lowerer).loop,
		api.NdMatch:  (*lowerer).match,
		api.NdReturn: (*lowerer).giveBack,
		api.NdPanic:  (*lowerer).stop,
	}
}

// list lowers a list of nodes from the current block on, and reports whether it is left: then in the block that is now the current one.
func (l *lowerer) list(nodes []api.Node) (left bool) {
	left = true
	for i := 0; left && i < len(nodes); i++ {
		left = l.rules[nodes[i].Kind](l, &nodes[i])
	}
	return left
}

func (l *lowerer) instruction(n *api.Node) (left bool) {
	code := &l.blocks[l.current].Code
	if len(*code) == api.MaxCode {
		l.tooLarge = true
		return true
	}
	*code = append(*code, copied(n.Ins))
	return true
}

func (l *lowerer) branch(n *api.Node) (left bool) {
	return l.parts(api.TermBranch, n.A, n.Then, n.Else)
}

func (l *lowerer) match(n *api.Node) (left bool) {
	return l.parts(api.TermSwitch, n.A, n.Arms...)
}

func (l *lowerer) loop(n *api.Node) (left bool) {
	header, body, behind := l.newBlock(), l.newBlock(), l.newBlock()
	l.end(api.TermJump, 0, header)
	l.current = header
	l.end(api.TermBranch, n.A, body, behind)
	l.current = body
	if l.list(n.Then) {
		l.end(api.TermJump, 0, header)
	}
	l.current = behind
	return true
}

func (l *lowerer) giveBack(n *api.Node) (left bool) {
	l.end(api.TermReturn, n.A)
	return false
}

func (l *lowerer) stop(*api.Node) (left bool) {
	l.end(api.TermPanic, 0)
	return false
}

// parts ends the current block with a terminator to a new block for each part, and lowers the parts from these. It reports whether some part is left: all that are then jump to one more block.
func (l *lowerer) parts(kind, a int, parts ...[]api.Node) (left bool) {
	begins := make([]int, len(parts))
	for i := range begins {
		begins[i] = l.newBlock()
	}
	l.end(kind, a, begins...)
	var ends []int
	for i, part := range parts {
		l.current = begins[i]
		if l.list(part) {
			ends = append(ends, l.current)
		}
	}
	if len(ends) == 0 {
		return false
	}
	joined := l.newBlock()
	for _, end := range ends {
		l.current = end
		l.end(api.TermJump, 0, joined)
	}
	l.current = joined
	return true
}

// newBlock makes a block, and returns its number. Beyond the limit there is no further one; it returns 0 then, as it doesn't matter any more what is in the blocks.
func (l *lowerer) newBlock() int {
	if len(l.blocks) == api.MaxBlocks {
		l.tooLarge = true
		return 0
	}
	l.blocks = append(l.blocks, api.Block{})
	return len(l.blocks) - 1
}

// end ends the current block.
func (l *lowerer) end(kind, a int, targets ...int) {
	l.blocks[l.current].End = api.Term{Kind: kind, A: a, Targets: targets}
}

// copied returns an instruction that shares no memory with another one.
func copied(x api.Ins) api.Ins {
	x.Args, x.Types = slices.Clone(x.Args), copiedTypes(x.Types)
	return x
}

func copiedTypes(types []api.Type) []api.Type {
	types = slices.Clone(types)
	for i := range types {
		types[i].Args = copiedTypes(types[i].Args)
	}
	return types
}
