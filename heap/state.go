package heap

import (
	"bytes"
	"maps"
	"slices"

	"loam/graph"
	"loam/head"
	"loam/table"
)

const (
	// Nodes have ids that are never another's, above nothing, which a name is for that is for no node.
	nothing   = 1
	nameWords = 5 // words that a name takes
)

// node is held whole: its lists are never changed, but others are put in their place.
type node struct {
	ptrs []int // ids, 0: none
	data []byte
}

// size tells how many words a node takes.
func (n node) size() int { return head.Size(head.Head{Ptrs: len(n.ptrs), Bytes: len(n.data)}) }

// state is all that Commit keeps and Abort goes back to.
type state struct {
	nodes map[int]node
	names *table.Table
	used  int
}

func empty() state { return state{nodes: map[int]node{}, names: &table.Table{}} }

// twin tells a state that is the same, and apart.
func (s state) twin() state {
	return state{maps.Clone(s.nodes), s.names.Twin(), s.used}
}

// graph tells nodes and names, and of each id its node's number.
func (s state) graph() (graph.Graph, map[int]int) {
	ids := slices.Sorted(maps.Keys(s.nodes))
	numbers := map[int]int{} // what is no node's id has number 0
	for i, id := range ids {
		numbers[id] = i + 1
	}
	var g graph.Graph
	for _, id := range ids {
		n := s.nodes[id]
		ptrs := make([]int, len(n.ptrs))
		for i, to := range n.ptrs {
			ptrs[i] = numbers[to]
		}
		g.Nodes = append(g.Nodes, graph.Node{Ptrs: ptrs, Data: bytes.Clone(n.data)})
	}
	for _, r := range s.names.Roots() {
		g.Roots = append(g.Roots, graph.Root{Name: r.Name, To: numbers[r.To]})
	}
	return g, numbers
}
