package canon_test

import (
	"math"
	"math/rand"
	"slices"
	"testing"

	"loam/canon"
	"loam/graph"
)

type node = graph.Node

func root(name string, to int) graph.Root { return graph.Root{Name: name, To: to} }

// sample: b leads to 4, a to 2; 2 to 5 and 4 and itself; 5 to 1; 3 is none's; 6 leads to 2.
func sample() graph.Graph {
	return graph.Graph{
		Nodes: []node{{Data: []byte{1, 0xab}}, {Ptrs: []int{5, 0, 4, 2}}, {Ptrs: []int{1}}, {Ptrs: []int{0}, Data: []byte{4}}, {Ptrs: []int{1, 2}}, {Ptrs: []int{2}}},
		Roots: []graph.Root{root("a", 2), root("b", 4), root("c", 2), root("d", 0)},
	}
}

func TestOrder(t *testing.T) { // P1801, W5
	if o := canon.Order(sample()); !slices.Equal(o, []int{2, 4, 5, 1}) {
		t.Errorf("%v", o)
	}
	if o := canon.Order(graph.Graph{Nodes: make([]node, 3)}); len(o) != 0 {
		t.Errorf("%v", o)
	}
}

func TestCanon(t *testing.T) { // P1801
	want := graph.Graph{
		Nodes: []node{{Ptrs: []int{3, 0, 2, 1}}, {Ptrs: []int{0}, Data: []byte{4}}, {Ptrs: []int{4, 1}}, {Data: []byte{1, 0xab}}},
		Roots: []graph.Root{root("a", 1), root("b", 2), root("c", 1), root("d", 0)},
	}
	if c := canon.Canon(sample()); !graph.Equal(c, want) || !graph.Equal(canon.Canon(c), c) {
		t.Errorf("%v", c)
	}
}

func TestText(t *testing.T) { // P1801
	want := "a -> 1\nb -> 2\nc -> 1\nd -> 0\n1: 3 0 2 1\n2: 0 x04\n3: 4 1\n4: x01ab\n"
	if x := canon.Text(sample()); x != want {
		t.Errorf("%q", x)
	}
	if x := canon.Text(graph.Graph{}); x != "" {
		t.Errorf("%q", x)
	}
	if x := canon.Text(graph.Graph{Nodes: []node{{}}, Roots: []graph.Root{root("z z", 1)}}); x != "z z -> 1\n1:\n" {
		t.Errorf("%q", x)
	}
}

// mixed tells the same graph by other numbers, with a node more that none leads to.
func mixed(g graph.Graph, rng *rand.Rand) graph.Graph {
	p := rng.Perm(len(g.Nodes) + 1)
	now := func(i int) int {
		if i == 0 {
			return 0
		}
		return p[i-1] + 1
	}
	out := graph.Graph{Nodes: make([]node, len(p))}
	for i, n := range g.Nodes {
		m := node{Data: n.Data}
		for _, x := range n.Ptrs {
			m.Ptrs = append(m.Ptrs, now(x))
		}
		out.Nodes[p[i]] = m
	}
	for _, r := range g.Roots {
		out.Roots = append(out.Roots, root(r.Name, now(r.To)))
	}
	return out
}

func TestSame(t *testing.T) { // P1801, W5
	rng := rand.New(rand.NewSource(1))
	for range 50 {
		if m := mixed(sample(), rng); !canon.Same(m, sample()) || canon.Text(m) != canon.Text(sample()) {
			t.Errorf("%v", m)
		}
	}
	for i, change := range []func(g *graph.Graph){
		func(g *graph.Graph) { g.Nodes[0].Data[0] = 2 }, func(g *graph.Graph) { g.Nodes[1].Ptrs[1] = 2 }, func(g *graph.Graph) { g.Roots[3].To = 1 },
		func(g *graph.Graph) { g.Roots[0].Name = "A" }, func(g *graph.Graph) { g.Roots = g.Roots[:3] }, func(g *graph.Graph) { g.Roots[2].To = 5 },
	} {
		g := sample()
		change(&g)
		if canon.Same(g, sample()) || canon.Same(sample(), g) {
			t.Errorf("%d: the same", i)
		}
	}
	g := sample()
	g.Nodes[2].Data = []byte{1}
	g.Nodes[5].Ptrs = nil
	if !canon.Same(g, sample()) {
		t.Error("what none leads to counts")
	}
}

func TestNothingIsShared(t *testing.T) { // P2
	g := sample()
	c := canon.Canon(g)
	c.Nodes[3].Data[0] = 77
	c.Nodes[0].Ptrs[0] = 77
	c.Roots[0].Name = "x"
	if !graph.Equal(g, sample()) {
		t.Error("shared")
	}
}

func TestWrongGraphsEnd(t *testing.T) { // P8, P1
	g := graph.Graph{Nodes: []node{{Ptrs: []int{-1, 99, math.MinInt}}}, Roots: []graph.Root{root("", 1), root("", -5), root("", math.MaxInt)}}
	canon.Canon(g)
	canon.Order(g)
	canon.Text(g)
	canon.Same(g, g)
}
