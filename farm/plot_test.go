package farm

import (
	"testing"

	"loam/api"
	"loam/disk"
	"loam/geom"
	"loam/graph"
	"loam/script"
)

var shape = geom.Geom{Sector: 64, Log: 8, Words: 64}

// grown is a plot with one name, committed.
func grown(t *testing.T) *plot {
	t.Helper()
	p, err := sow(shape)
	if err != api.OK {
		t.Fatal(err)
	}
	for _, o := range []script.Op{{Kind: script.Alloc, I: 1}, {Kind: script.Bind, Name: "a", X: 1}, {Kind: script.Commit}} {
		if err := p.do(o); err != api.OK {
			t.Fatal(err)
		}
	}
	return p
}

// A heap that tells another graph than it may is Bad; so is one that is refused.
func TestWhatIsBad(t *testing.T) { // P2801
	commit, other := script.Op{Kind: script.Commit}, script.Op{Kind: script.Read}
	named := graph.Graph{Nodes: []graph.Node{{Data: []byte{0}}}, Roots: []graph.Root{{Name: "a", To: 1}}}
	elsewhere := graph.Graph{Nodes: []graph.Node{{}}, Roots: []graph.Root{{Name: "b", To: 1}}}
	for i, c := range []struct {
		last, would graph.Graph
		o           script.Op
		want        Report
	}{
		{named, named, other, Report{Cuts: 1, Opens: 1, Lost: 1}},
		{named, elsewhere, commit, Report{Cuts: 1, Opens: 1}},
		{elsewhere, named, commit, Report{Cuts: 1, Opens: 1}},
		{elsewhere, elsewhere, commit, Report{Cuts: 1, Opens: 1, Bad: 1}},
		{graph.Graph{}, elsewhere, other, Report{Cuts: 1, Opens: 1, Lost: 1, Bad: 1}},
	} {
		p := grown(t)
		p.last, p.would = c.last, c.would
		p.d.Cut()
		var r Report
		if goes := p.behind(c.o, &r); !goes || r != c.want {
			t.Errorf("%d: %v, %v", i, goes, r)
		}
		// What the Commit that was cut has made stays.
		if c.want.Bad == 0 && !graph.Equal(p.last, named) {
			t.Errorf("%d: %v", i, p.last)
		}
	}
	p := grown(t)
	p.d, _ = disk.New(geom.Sectors(shape), shape.Sector)
	var r Report
	if goes := p.behind(other, &r); goes || r != (Report{Cuts: 1, Opens: 1, Lost: 1, Bad: 1}) {
		t.Errorf("refused: %v, %v", goes, r)
	}
}
