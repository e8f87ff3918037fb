package image_test

import (
	"math"
	"math/rand"
	"slices"
	"strings"
	"testing"

	"loam/api"
	"loam/graph"
	"loam/image"
)

const mark = 1 << 63

type node = graph.Node

func root(name string, to int) graph.Root { return graph.Root{Name: name, To: to} }

// sample: 1 leads to 2 and nothing; 2, of nine bytes, to 1.
func sample() graph.Graph {
	return graph.Graph{
		Nodes: []node{{Ptrs: []int{2, 0}}, {Ptrs: []int{1}, Data: []byte{1, 2, 3, 4, 5, 6, 7, 8, 9}}, {}},
		Roots: []graph.Root{root("ab", 2), root(strings.Repeat("z", 32), 0)},
	}
}

// words is sample's image.
func words() []uint64 {
	const z = 0x7a7a7a7a7a7a7a7a
	return []uint64{
		0x4d414f4c, 2 | 20<<16,
		'a' | 'b'<<8, 0, 0, 0, 16,
		z, z, z, z, 0,
		mark | 2<<1, 16, 0,
		mark | 1<<1 | 9<<16, 13, 0x0807060504030201, 9,
		mark,
	}
}

func TestEncodeWords(t *testing.T) { // P2301
	l, err := image.Encode(sample())
	if err != api.OK || !slices.Equal(l, words()) {
		t.Errorf("%x, %v", l, err)
	}
	if n := image.Need(sample()); n != 20 {
		t.Errorf("%d", n)
	}
	l, err = image.Encode(graph.Graph{})
	if err != api.OK || !slices.Equal(l, []uint64{0x4d414f4c, 2 << 16}) || image.Need(graph.Graph{}) != 2 {
		t.Errorf("of nothing: %x, %v", l, err)
	}
}

func TestEncodeRefuses(t *testing.T) { // P2301, P4, P6
	big := graph.Graph{Roots: []graph.Root{root("a", 1)}}
	for range 42 {
		big.Nodes = append(big.Nodes, node{Ptrs: make([]int, 64), Data: make([]byte, 1024)})
	}
	big.Nodes = append(big.Nodes, node{Ptrs: make([]int, 64), Data: make([]byte, 8*(api.MaxWords-42*193-7-65))})
	if l, err := image.Encode(big); err != api.OK || len(l) != api.MaxWords {
		t.Errorf("%d, %v", len(l), err)
	}
	big.Nodes = append(big.Nodes, node{})
	if l, err := image.Encode(big); l != nil || err != api.ErrLong {
		t.Errorf("%d, %v", len(l), err)
	}
	big.Roots[0].To = 99
	if l, err := image.Encode(big); l != nil || err != api.ErrArg {
		t.Errorf("%d, %v", len(l), err)
	}
	for i, c := range []struct {
		g    graph.Graph
		want api.Errno
	}{
		{graph.Graph{Nodes: []node{{Ptrs: []int{2}}}}, api.ErrArg}, {graph.Graph{Nodes: []node{{Data: make([]byte, 1025)}}}, api.ErrLong},
		{graph.Graph{Roots: []graph.Root{root("", 0)}}, api.ErrName}, {graph.Graph{Roots: make([]graph.Root, 65)}, api.ErrLong},
	} {
		if l, err := image.Encode(c.g); l != nil || err != c.want {
			t.Errorf("%d: %v", i, err)
		}
	}
}

func TestDecodeIsBack(t *testing.T) { // P2301, P2
	l := words()
	g, err := image.Decode(l)
	if err != api.OK || !graph.Equal(g, sample()) {
		t.Errorf("%v, %v", g, err)
	}
	g.Nodes[1].Data[0] = 77
	if !slices.Equal(l, words()) {
		t.Error("what was handed in was changed")
	}
	if g, err := image.Decode([]uint64{0x4d414f4c, 2 << 16}); err != api.OK || !graph.Equal(g, graph.Graph{}) {
		t.Errorf("%v, %v", g, err)
	}
	for seed := range int64(100) {
		rng := rand.New(rand.NewSource(seed))
		g := graph.Graph{Nodes: make([]node, rng.Intn(12))}
		for i := range g.Nodes {
			for range rng.Intn(5) {
				g.Nodes[i].Ptrs = append(g.Nodes[i].Ptrs, rng.Intn(len(g.Nodes)+1))
			}
			g.Nodes[i].Data = make([]byte, rng.Intn(30))
			rng.Read(g.Nodes[i].Data)
		}
		for i := range rng.Intn(5) {
			g.Roots = append(g.Roots, root(strings.Repeat("n", i+1), rng.Intn(len(g.Nodes)+1)))
		}
		l, err := image.Encode(g)
		if err != api.OK || len(l) != image.Need(g) {
			t.Fatal(err)
		}
		if back, err := image.Decode(l); err != api.OK || !graph.Equal(back, g) {
			t.Errorf("seed %d: %v", seed, err)
		}
	}
}

func TestDecodeRefuses(t *testing.T) { // P2301, P4
	refused := func(what string, l []uint64) {
		t.Helper()
		if g, err := image.Decode(l); err != api.ErrForm || !graph.Equal(g, graph.Graph{}) {
			t.Errorf("%s: %v, %v", what, g, err)
		}
	}
	for n := range 20 {
		refused("cut", words()[:n])
	}
	refused("a word more", append(words(), mark))
	refused("of too many words", append([]uint64{0x4d414f4c, (api.MaxWords + 1) << 16}, slices.Repeat([]uint64{mark}, api.MaxWords-1)...))
	for what, c := range map[string]struct {
		at int
		w  uint64
	}{
		"magic": {0, 0x4d414f4d}, "magic above": {0, 1<<40 | 0x4d414f4c}, "size": {1, 2 | 21<<16}, "size above": {1, 1<<48 | 2 | 20<<16}, "roots": {1, 3 | 20<<16}, "many roots": {1, 65535 | 20<<16},
		"no name": {2, 0}, "a byte behind a 0": {3, 1}, "names that fall": {2, 'z' | 'z'<<8 | 'z'<<16 | 'z'<<24 | 0x7b<<32}, "a byte 0 in a name": {2, 'a' | 'b'<<16},
		"root within": {6, 15}, "root above": {6, 21}, "root far above": {6, math.MaxUint64}, "root below": {6, 1}, "root of 2^63": {6, 1 << 63},
		"head": {12, 0}, "moved": {12, mark | 1}, "ends late": {19, mark | 1<<1}, "ptr within": {13, 15}, "ptr above": {13, 21}, "ptr far above": {13, 1<<32 | 13}, "pad": {18, 9 | 1<<8}, "pad above": {18, 9 | 1<<56},
	} {
		l := words()
		l[c.at] = c.w
		refused(what, l)
	}
}

func TestAnyWordsEnd(t *testing.T) { // P2301, P1: each bit counts, or makes another graph's image
	for i := range words() {
		for bit := range 64 {
			l := words()
			l[i] ^= 1 << bit
			g, err := image.Decode(l)
			if err == api.OK {
				if again, err := image.Encode(g); err != api.OK || !slices.Equal(again, l) || graph.Equal(g, sample()) {
					t.Errorf("word %d, bit %d: %v", i, bit, g)
				}
			} else if err != api.ErrForm {
				t.Errorf("word %d, bit %d: %v", i, bit, err)
			}
		}
	}
}

func TestWrongGraphsEnd(t *testing.T) { // P8, P1
	image.Need(graph.Graph{Nodes: []node{{Ptrs: []int{-1, 9}, Data: make([]byte, 2000)}}, Roots: []graph.Root{root("", -5)}})
}
