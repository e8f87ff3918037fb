package farm_test

import (
	"math"
	"math/rand"
	"slices"
	"strings"
	"testing"

	"loam/api"
	"loam/disk"
	"loam/farm"
	"loam/geom"
	"loam/pheap"
	"loam/script"
)

type op = script.Op

var shape = geom.Geom{Sector: 64, Log: 8, Words: 96}

// day names a node of bytes, commits, changes it, commits, and changes it once more.
func day() []op {
	return []op{
		{Kind: script.Alloc, X: 1, I: 2}, {Kind: script.Bind, Name: "a", X: 1}, {Kind: script.Commit},
		{Kind: script.Write, X: 1, Data: []byte{1, 2}}, {Kind: script.Bind, Name: "b", X: 1}, {Kind: script.Commit},
		{Kind: script.Unbind, Name: "a"},
	}
}

const (
	none   = ""
	first  = "a -> 1\n1: 0 x0000\n"
	second = "a -> 1\nb -> 1\n1: 0 x0102\n"
	third  = "b -> 1\n1: 0 x0102\n"
)

func play(t *testing.T, l []op, cuts ...farm.Cut) farm.Report {
	t.Helper()
	r, err := farm.Play(shape, l, cuts...)
	if err != api.OK {
		t.Fatal(err)
	}
	return r
}

func TestPlayWithoutCuts(t *testing.T) { // P2801
	if r := play(t, day()); r != (farm.Report{Last: third}) {
		t.Errorf("%v", r)
	}
	if r := play(t, nil, farm.Cut{After: 1}); r != (farm.Report{}) {
		t.Errorf("%v", r)
	}
	if r := play(t, day(), farm.Cut{After: math.MaxInt}, farm.Cut{After: 1}); r != (farm.Report{Last: third}) {
		t.Errorf("%v", r)
	}
	for _, g := range []geom.Geom{{}, {Sector: 64, Log: 7, Words: 64}, {Sector: 60, Log: 8, Words: 64}} {
		if r, err := farm.Play(g, day()); r != (farm.Report{}) || err != api.ErrArg {
			t.Errorf("%v: %v", r, err)
		}
	}
}

func TestPlayWithCuts(t *testing.T) { // P2801, T2
	// The first Commit is cut at its first write: the node and its handle are gone, so all that follows is refused.
	if r := play(t, day(), farm.Cut{After: 1}); r != (farm.Report{Cuts: 1, Opens: 1}) {
		t.Errorf("%v", r)
	}
	// Again at once: the next Commit is cut, too.
	if r := play(t, day(), farm.Cut{After: -1}, farm.Cut{After: 0}, farm.Cut{After: 1}); r != (farm.Report{Cuts: 2, Opens: 2}) {
		t.Errorf("%v", r)
	}
	// The second Commit is cut at one of its writes: what the first one made is there. At the end nothing is cut.
	var got []string
	for n := 1; n == 1 || got[len(got)-1] != second; n++ {
		r := play(t, day()[:6], farm.Cut{After: n})
		cut := 1
		if r.Last == second {
			cut = 0
		}
		if r.Cuts != cut || r.Opens != cut || r.Lost != 0 || r.Bad != 0 {
			t.Errorf("%v", r)
		}
		got = append(got, r.Last)
	}
	if l := slices.Compact(got); !slices.Equal(l, []string{none, first, second}) {
		t.Errorf("%q", l)
	}
}

func TestHandsAreClosedBehindACut(t *testing.T) { // P2801
	l := []op{
		{Kind: script.Alloc, I: 1}, {Kind: script.Bind, Name: "a", X: 1}, {Kind: script.Commit},
		{Kind: script.Commit}, // the armed one: cut
		{Kind: script.Bind, Name: "b", X: 1}, {Kind: script.Lookup, Name: "a"}, {Kind: script.Bind, Name: "c", X: 1}, {Kind: script.Commit},
	}
	at := 1
	for play(t, l[:3], farm.Cut{After: at}).Cuts > 0 {
		at++
	}
	if r := play(t, l, farm.Cut{After: at}); r != (farm.Report{Cuts: 1, Opens: 1, Last: "a -> 1\nc -> 1\n1: x00\n"}) {
		t.Errorf("%v", r)
	}
}

// random tells any ops, a name and a Commit often among them.
func random(rng *rand.Rand, n int) []op {
	var l []op
	for range n {
		o := op{Kind: 1 + rng.Intn(13), X: 1 + rng.Intn(6), I: rng.Intn(3), To: rng.Intn(6), Name: string(rune('a' + rng.Intn(4))), Data: make([]byte, rng.Intn(3))}
		rng.Read(o.Data)
		switch rng.Intn(6) {
		case 0:
			o.Kind = script.Commit
		case 1:
			o.Kind, o.X, o.I = script.Alloc, rng.Intn(3), rng.Intn(20)
		case 2:
			o.Kind = script.Bind
		}
		l = append(l, o)
	}
	return l
}

func keeps(rng *rand.Rand) []bool {
	var out []bool
	for range rng.Intn(12) {
		out = append(out, rng.Intn(2) == 0)
	}
	return out
}

func TestNoPlayIsBad(t *testing.T) { // P2801, T1, T2, P3
	cuts := 0
	for seed := range int64(200) {
		rng := rand.New(rand.NewSource(seed))
		l := random(rng, 120)
		var c []farm.Cut
		for range rng.Intn(9) {
			c = append(c, farm.Cut{After: 1 + rng.Intn(20), Keep: keeps(rng)})
		}
		r := play(t, l, c...)
		if r.Bad != 0 || r.Cuts != r.Opens || r.Cuts > len(c) || r.Lost > r.Cuts {
			t.Fatalf("seed %d: %v", seed, r)
		}
		if play(t, l, c...) != r {
			t.Fatalf("seed %d: not the same again", seed)
		}
		cuts += r.Cuts
	}
	if cuts < 100 {
		t.Errorf("only %d cuts", cuts)
	}
}

func TestTry(t *testing.T) { // P2802, T2
	if l, err := farm.Try(geom.Geom{}, day(), 1); l != nil || err != api.ErrArg {
		t.Error(l, err)
	}
	if l, err := farm.Try(shape, day(), math.MaxInt); err != api.OK || !slices.Equal(l, []string{second, second, second}) {
		t.Errorf("without a cut: %q, %v", l, err)
	}
	if l, err := farm.Try(shape, nil, 1); err != api.OK || !slices.Equal(l, []string{none, none, none}) {
		t.Errorf("of no ops: %q, %v", l, err)
	}
	if l, err := farm.Try(shape, day(), 1); err != api.OK || !slices.Equal(l, []string{none, none, first}) {
		t.Errorf("the first Commit is cut at once: %q, %v", l, err)
	}
	states := []string{none, first, second}
	at := 0 // the Commit that is cut
	for after := 1; after < 30; after++ {
		for _, keep := range [][]bool{nil, {true, true, true, true, true}, {false, true}} {
			l, err := farm.Try(shape, day(), after, keep...)
			if err != api.OK || len(l) != 3 {
				t.Fatal(l, err)
			}
			for at < 2 && l[1] != states[at] {
				at++
			}
			if l[1] != states[at] || l[2] != states[min(at+1, 2)] || l[0] != l[1] && l[0] != l[2] {
				t.Errorf("after %d: %q", after, l)
			}
		}
	}
	if at != 2 {
		t.Errorf("only %d commits", at)
	}
}

func TestTryOfRandomDays(t *testing.T) { // P2802, T2
	for seed := range int64(300) {
		rng := rand.New(rand.NewSource(seed))
		l, err := farm.Try(shape, random(rng, 60), 1+rng.Intn(60), keeps(rng)...)
		if err != api.OK || len(l) != 3 || l[0] != l[1] && l[0] != l[2] {
			t.Errorf("seed %d: %q, %v", seed, l, err)
		}
	}
}

func TestFair(t *testing.T) { // P2802, T4, P4
	d, _ := disk.New(geom.Sectors(shape), 64)
	h, err := pheap.Format(d, shape)
	if err != api.OK {
		t.Fatal(err)
	}
	if s, err := farm.Fair(d.Bytes(), 64); s != none || err != api.OK {
		t.Errorf("%q, %v", s, err)
	}
	script.Run(h, day()...)
	b := d.Bytes()
	if s, err := farm.Fair(b, 64); s != second || err != api.OK {
		t.Errorf("%q, %v", s, err)
	}
	for _, c := range []struct {
		b    []byte
		size int
		want api.Errno
	}{{nil, 64, api.ErrArg}, {b[1:], 64, api.ErrArg}, {b, 63, api.ErrArg}, {b, 0, api.ErrArg}, {b, math.MinInt, api.ErrArg}, {b[:len(b)-64], 64, api.ErrForm}, {make([]byte, 640), 64, api.ErrForm}, {b, 128, api.ErrForm}} {
		if s, err := farm.Fair(c.b, c.size); s != none || err != c.want {
			t.Errorf("%d bytes of %d: %q, %v", len(c.b), c.size, s, err)
		}
	}
	if strings.Count(string(b), "LOAM") < 2 {
		t.Error("Fair changed what it was handed")
	}
}
