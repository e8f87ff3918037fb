package geom_test

import (
	"math"
	"testing"

	"loam/api"
	"loam/geom"
)

func TestCheck(t *testing.T) { // P401
	for _, c := range []struct {
		g    geom.Geom
		want api.Errno
	}{
		{geom.Geom{64, 8, 64}, api.OK}, {geom.Geom{1024, 1024, api.MaxWords}, api.OK}, {geom.Geom{64, 1024, api.MaxWords}, api.OK}, {geom.Geom{72, 8, 65}, api.OK},
		{geom.Geom{56, 8, 64}, api.ErrArg}, {geom.Geom{1032, 8, 64}, api.ErrArg}, {geom.Geom{68, 8, 64}, api.ErrArg},
		{geom.Geom{64, 7, 64}, api.ErrArg}, {geom.Geom{64, 1025, 64}, api.ErrArg},
		{geom.Geom{64, 8, 63}, api.ErrArg}, {geom.Geom{64, 8, api.MaxWords + 1}, api.ErrArg},
		{geom.Geom{}, api.ErrArg}, {geom.Geom{math.MinInt, math.MinInt, math.MinInt}, api.ErrArg}, {geom.Geom{math.MaxInt, math.MaxInt, math.MaxInt}, api.ErrArg}, {geom.Geom{64, 8, math.MaxInt}, api.ErrArg},
	} {
		if err := geom.Check(c.g); err != c.want {
			t.Errorf("%v: %v", c.g, err)
		}
	}
}

func TestPlaces(t *testing.T) { // P401
	for _, c := range []struct {
		g     geom.Geom
		space int // sectors of one
	}{
		{geom.Geom{64, 8, 64}, 8 + 2}, {geom.Geom{64, 9, 65}, 9 + 3}, {geom.Geom{1024, 8, 64}, 1 + 2},
		{geom.Geom{72, 20, 100}, 12 + 4}, {geom.Geom{512, 1024, 8192}, 128 + 256}, {geom.Geom{64, 8, 96}, 12 + 3},
	} {
		if s := geom.Slots(c.g); s != [2]geom.Place{{0, 1}, {1, 1}} {
			t.Errorf("%v: slots %v", c.g, s)
		}
		if p := geom.Log(c.g); p != (geom.Place{2, c.g.Log}) {
			t.Errorf("%v: log %v", c.g, p)
		}
		for i := range 2 {
			if p := geom.Space(c.g, i); p != (geom.Place{2 + c.g.Log + i*c.space, c.space}) {
				t.Errorf("%v: space %d %v", c.g, i, p)
			}
		}
		if n := geom.Sectors(c.g); n != 2+c.g.Log+2*c.space {
			t.Errorf("%v: %d sectors", c.g, n)
		}
		for _, i := range []int{-1, 2, math.MinInt, math.MaxInt} {
			if p := geom.Space(c.g, i); p != (geom.Place{}) {
				t.Errorf("%v: space %d %v", c.g, i, p)
			}
		}
	}
}

func TestWord(t *testing.T) { // P401
	g := geom.Geom{72, 8, 100}
	for i := range 2 {
		p := geom.Space(g, i)
		for w := range g.Words {
			if s, at := geom.Word(g, i, w); s != p.At+w*8/72 || at != w*8%72 {
				t.Errorf("space %d, word %d: %d, %d", i, w, s, at)
			}
		}
	}
	for _, c := range [][2]int{{0, -1}, {0, 100}, {1, 100}, {2, 0}, {-1, 0}, {0, math.MaxInt}, {0, math.MinInt}} {
		if s, at := geom.Word(g, c[0], c[1]); s != 0 || at != 0 {
			t.Errorf("%v: %d, %d", c, s, at)
		}
	}
}

func TestOwner(t *testing.T) { // P401
	g := geom.Geom{64, 8, 64}
	for s, want := range map[int]string{0: "slot", 1: "slot", 2: "log", 9: "log", 10: "space", 19: "space", 20: "space", 29: "space", 30: "", -1: "", math.MaxInt: "", math.MinInt: ""} {
		if o := geom.Owner(g, s); o != want {
			t.Errorf("%d: %q", s, o)
		}
	}
}

func TestWrongGeomEnds(t *testing.T) { // P1, P8
	for _, g := range []geom.Geom{{}, {0, 8, 64}, {-8, -8, -8}, {math.MaxInt, math.MaxInt, math.MaxInt}, {math.MinInt, math.MinInt, math.MinInt}} {
		geom.Sectors(g)
		geom.Slots(g)
		geom.Log(g)
		for _, i := range []int{-1, 0, 1, 2} {
			geom.Space(g, i)
			geom.Word(g, i, i)
			geom.Owner(g, i)
		}
	}
}
