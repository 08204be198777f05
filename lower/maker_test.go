package lower

import (
	"math/rand/v2"
	"slices"

	"leasehold/api"
)

// leaves are the nodes without parts.
func leaves() []api.Node {
	return []api.Node{{Kind: api.NdIns}, {Kind: api.NdReturn}, {Kind: api.NdPanic}}
}

// smallLists yields all lists with a number of nodes, if an NdMatch has one or two arms.
func smallLists(nodes int, yield func([]api.Node)) {
	if nodes == 0 {
		yield(nil)
		return
	}
	for first := 1; first <= nodes; first++ {
		smallNodes(first, func(n api.Node) {
			smallLists(nodes-first, func(rest []api.Node) { yield(append([]api.Node{n}, rest...)) })
		})
	}
}

// smallNodes yields all nodes that are a number of nodes with those in them.
func smallNodes(nodes int, yield func(api.Node)) {
	if nodes == 1 {
		for _, n := range leaves() {
			yield(n)
		}
	}
	smallLists(nodes-1, func(l []api.Node) {
		yield(api.Node{Kind: api.NdWhile, Then: l})
		yield(api.Node{Kind: api.NdMatch, Arms: [][]api.Node{l}})
	})
	for first := range nodes {
		smallLists(first, func(a []api.Node) {
			smallLists(nodes-1-first, func(b []api.Node) {
				yield(api.Node{Kind: api.NdIf, Then: a, Else: b})
				yield(api.Node{Kind: api.NdMatch, Arms: [][]api.Node{a, b}})
			})
		})
	}
}

// eachNode calls a function with each node of a list and its parts, to change it: first with those in a node, then with the node.
func eachNode(list []api.Node, change func(n *api.Node)) {
	for i := range list {
		n := &list[i]
		eachNode(n.Then, change)
		eachNode(n.Else, change)
		for _, arm := range n.Arms {
			eachNode(arm, change)
		}
		change(n)
	}
}

// numbered returns a copy of a list in which all nodes, and their instructions, have different numbers.
func numbered(list []api.Node) []api.Node {
	list = clone(list)
	next := 0
	eachNode(list, func(n *api.Node) {
		next++
		n.A = next
		n.Ins = constant(next)
	})
	return list
}

// maker makes random nodes.
type maker struct {
	*rand.Rand
	ends   int  // about one of so many nodes is an NdReturn or NdPanic
	wrong  int  // one of so many nodes is wrong; 0: none is
	fields bool // nodes have also parts that have no meaning for their Kinds
}

func seeded(n uint64) *maker { return &maker{Rand: rand.New(rand.NewPCG(n, 10)), ends: 6} }

// list makes a list of at most as many nodes.
func (m *maker) list(most, levels int) (l []api.Node) {
	for range m.IntN(most + 1) {
		l = append(l, m.node(most*2/3, levels))
	}
	return l
}

func (m *maker) kind(levels int) int {
	if m.IntN(m.ends) == 0 {
		return api.NdReturn + m.IntN(2)
	}
	if levels == 0 {
		return api.NdIns
	}
	return api.NdIns + m.IntN(4)
}

func (m *maker) arms(most, levels int) (arms [][]api.Node) {
	for range 1 + m.IntN(4) {
		arms = append(arms, m.list(most, levels-1))
	}
	return arms
}

func (m *maker) node(most, levels int) api.Node {
	n := api.Node{Kind: m.kind(levels), A: m.IntN(9) - 1}
	if n.Kind == api.NdIns || m.fields && m.IntN(4) == 0 {
		n.Ins = m.instruction()
	}
	other := func() bool { return levels > 0 && m.fields && m.IntN(8) == 0 }
	if n.Kind == api.NdIf || n.Kind == api.NdWhile || other() {
		n.Then = m.list(most, levels-1)
	}
	if n.Kind == api.NdIf || other() {
		n.Else = m.list(most, levels-1)
	}
	if n.Kind == api.NdMatch || other() {
		n.Arms = m.arms(most, levels)
	}
	if m.wrong > 0 && m.IntN(m.wrong) == 0 {
		n.Kind = []int{0, -1, 7, 100, api.NdMatch}[m.IntN(5)]
		n.Arms = nil
	}
	return n
}

func (m *maker) numbers() (l []int) {
	for range m.IntN(3) {
		l = append(l, m.IntN(5)-1)
	}
	return l
}

func (m *maker) types(levels int) (l []api.Type) {
	for range m.IntN(levels) {
		l = append(l, api.Type{Kind: m.IntN(api.TyVar + 2), Id: m.IntN(3), Args: m.types(levels - 1)})
	}
	return l
}

func (m *maker) instruction() api.Ins {
	return api.Ins{Op: m.IntN(api.OpDropIf + 2), Dst: m.IntN(4), A: m.IntN(4), B: m.IntN(4), N: m.IntN(100), Args: m.numbers(), Types: m.types(4)}
}

// size counts the nodes of a list and its parts.
func size(list []api.Node) (n int) {
	allNodes(list, 1, func(api.Node, int) { n++ })
	return n
}

// body makes a body, which often ends with a return.
func (m *maker) body(most, levels int) []api.Node {
	l := m.list(most, levels)
	if m.IntN(4) > 0 {
		l = append(slices.Clone(l), api.Node{Kind: api.NdReturn, A: m.IntN(5)})
	}
	return l
}
