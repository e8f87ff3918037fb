package graph_test

import (
	"math"
	"slices"
	"strings"
	"testing"

	"loam/api"
	"loam/graph"
)

type (
	node = graph.Node
	root = graph.Root
)

func nodes(l ...node) graph.Graph { return graph.Graph{Nodes: l} }

func roots(l ...root) graph.Graph { return graph.Graph{Nodes: make([]node, 2), Roots: l} }

func TestCheckNodes(t *testing.T) { // P1701, P6
	long, many := make([]byte, api.MaxBytes+1), make([]int, api.MaxPtrs+1)
	for i, c := range []struct {
		g    graph.Graph
		want api.Errno
	}{
		{graph.Graph{}, api.OK}, {nodes(node{Ptrs: []int{0, 1, 2}}, node{}), api.OK}, {nodes(node{Ptrs: many[:64], Data: long[:1024]}), api.OK},
		{nodes(node{Ptrs: []int{2}}), api.ErrArg}, {nodes(node{Ptrs: []int{-1}}), api.ErrArg}, {nodes(node{Ptrs: []int{math.MaxInt}}), api.ErrArg}, {nodes(node{Ptrs: []int{math.MinInt}}), api.ErrArg},
		{nodes(node{Ptrs: many}), api.ErrLong}, {nodes(node{Data: long}), api.ErrLong},
		{nodes(node{Ptrs: append(slices.Clone(many), 9)}), api.ErrArg},
		{nodes(node{Ptrs: []int{9}, Data: long}), api.ErrArg},
		{nodes(node{Data: long}, node{Ptrs: []int{9}}), api.ErrLong},
	} {
		if err := graph.Check(c.g); err != c.want {
			t.Errorf("%d: %v", i, err)
		}
	}
}

func TestCheckRoots(t *testing.T) { // P1701, P6
	var many []root
	for i := range api.MaxRoots + 1 {
		many = append(many, root{"n" + string(rune('A'+i)), 1})
	}
	long := strings.Repeat("x", api.MaxName)
	for i, c := range []struct {
		g    graph.Graph
		want api.Errno
	}{
		{roots(root{"a", 1}, root{"b", 0}, root{"ba", 2}), api.OK}, {roots(root{long, 1}, root{long[:3] + "\xff\xfe", 1}), api.OK}, {roots(many[:64]...), api.OK},
		{roots(many...), api.ErrLong}, {roots(append([]root{{"", 9}}, many...)...), api.ErrLong},
		{roots(root{"", 1}), api.ErrName}, {roots(root{long + "x", 1}), api.ErrName}, {roots(root{"a\x00", 1}), api.ErrName}, {roots(root{"\x00", 1}), api.ErrName},
		{roots(root{"b", 1}, root{"a", 1}), api.ErrName}, {roots(root{"a", 1}, root{"a", 1}), api.ErrName},
		{roots(root{"a", 3}), api.ErrArg}, {roots(root{"a", -1}), api.ErrArg},
		{roots(root{"b", 1}, root{"a", 9}), api.ErrName}, {roots(root{"b", 9}, root{"a", 1}), api.ErrArg}, {roots(root{"", 9}), api.ErrName},
		{graph.Graph{Nodes: []node{{Ptrs: []int{7}}}, Roots: []root{{"", 1}}}, api.ErrArg},
	} {
		if err := graph.Check(c.g); err != c.want {
			t.Errorf("%d: %v", i, err)
		}
	}
}

// sample: 1 leads to 3, 3 to 1 and 5; 2 leads to 1; 4 is alone; 5 leads to nothing.
func sample() graph.Graph {
	return graph.Graph{
		Nodes: []node{{Ptrs: []int{3, 0}}, {Ptrs: []int{1}, Data: []byte{2}}, {Ptrs: []int{1, 5}, Data: []byte{3, 3, 3}}, {Data: make([]byte, 9)}, {}},
		Roots: []root{{"a", 5}, {"b", 0}, {"c", 3}},
	}
}

func TestWordsAndNamed(t *testing.T) { // P1701
	if n := graph.Words(sample()); n != 3+3+4+3+1 {
		t.Errorf("%d", n)
	}
	if l := graph.Named(sample()); !slices.Equal(l, []int{5, 0, 3}) {
		t.Errorf("%v", l)
	}
	if graph.Words(graph.Graph{}) != 0 || len(graph.Named(graph.Graph{})) != 0 {
		t.Error("of nothing")
	}
}

func TestReach(t *testing.T) { // P1701
	for _, c := range []struct {
		from []int
		want []bool
	}{
		{nil, []bool{false, false, false, false, false}}, {[]int{1}, []bool{true, false, true, false, true}}, {[]int{2}, []bool{true, true, true, false, true}},
		{[]int{4, 5, 4}, []bool{false, false, false, true, true}}, {[]int{0, -1, 6, math.MaxInt, math.MinInt}, []bool{false, false, false, false, false}},
	} {
		if r := graph.Reach(sample(), c.from...); !slices.Equal(r, c.want) {
			t.Errorf("%v: %v", c.from, r)
		}
	}
}

func TestTrim(t *testing.T) { // P1701
	g, to := graph.Trim(sample())
	want := graph.Graph{Nodes: []node{{Ptrs: []int{2, 0}}, {Ptrs: []int{1, 3}, Data: []byte{3, 3, 3}}, {}}, Roots: []root{{"a", 3}, {"b", 0}, {"c", 2}}}
	if !graph.Equal(g, want) || !slices.Equal(to, []int{1, 0, 2, 0, 3}) {
		t.Errorf("%v, %v", g, to)
	}
	g, to = graph.Trim(sample(), 4, 99, -1, 0)
	if len(g.Nodes) != 4 || !slices.Equal(to, []int{1, 0, 2, 3, 4}) || len(g.Nodes[2].Data) != 9 {
		t.Errorf("%v, %v", g, to)
	}
	if g, to := graph.Trim(graph.Graph{}); len(g.Nodes) != 0 || len(g.Roots) != 0 || len(to) != 0 {
		t.Error("of nothing")
	}
}

func TestEqual(t *testing.T) { // P1701, P2
	if !graph.Equal(sample(), sample()) || !graph.Equal(graph.Graph{}, graph.Graph{Nodes: []node{}, Roots: []root{}}) || !graph.Equal(nodes(node{Ptrs: []int{}, Data: []byte{}}), nodes(node{})) {
		t.Error("not equal")
	}
	for i, change := range []func(g *graph.Graph){
		func(g *graph.Graph) { g.Nodes[0].Ptrs[1] = 1 }, func(g *graph.Graph) { g.Nodes[2].Data[0] = 1 }, func(g *graph.Graph) { g.Nodes = g.Nodes[:4] },
		func(g *graph.Graph) { g.Roots[0].Name = "A" }, func(g *graph.Graph) { g.Roots[0].To = 1 }, func(g *graph.Graph) { g.Roots = g.Roots[1:] }, func(g *graph.Graph) { g.Nodes[0].Ptrs = g.Nodes[0].Ptrs[:1] },
	} {
		g := sample()
		change(&g)
		if graph.Equal(g, sample()) || graph.Equal(sample(), g) {
			t.Errorf("%d: equal", i)
		}
	}
}

func TestNothingIsShared(t *testing.T) { // P2
	for _, make := range []func(g graph.Graph) graph.Graph{graph.Twin, func(g graph.Graph) graph.Graph {
		out, _ := graph.Trim(g, 1, 2, 3, 4, 5)
		return out
	}} {
		g := sample()
		w := make(g)
		if !graph.Equal(g, w) {
			t.Errorf("%v", w)
		}
		for i := range w.Nodes {
			for k := range w.Nodes[i].Ptrs {
				w.Nodes[i].Ptrs[k] = 4
			}
			for k := range w.Nodes[i].Data {
				w.Nodes[i].Data[k] = 77
			}
		}
		for i := range w.Roots {
			w.Roots[i].To = 2
		}
		if !graph.Equal(g, sample()) {
			t.Error("shared")
		}
	}
}

func TestWrongGraphsEnd(t *testing.T) { // P8, P1
	g := graph.Graph{Nodes: []node{{Ptrs: []int{-1, 99, math.MinInt}}, {Data: make([]byte, 5000)}}, Roots: []root{{"", -5}, {"", 99}}}
	graph.Reach(g, 1, 2)
	graph.Trim(g, 1, 2)
	graph.Words(g)
	graph.Named(g)
	graph.Equal(g, graph.Twin(g))
}
