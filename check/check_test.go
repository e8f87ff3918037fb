package check_test

import (
	"math"
	"math/rand"
	"slices"
	"testing"

	"loam/api"
	"loam/check"
	"loam/graph"
	"loam/image"
	"loam/mem"
	"loam/space"
)

const mark = 1 << 63

type found = check.Finding

func f(at int, what string) found { return found{At: at, What: what} }

func of(t *testing.T, base, top int, l ...uint64) *space.Space {
	t.Helper()
	m, err := mem.Of(l)
	if err != api.OK {
		t.Fatal(err)
	}
	return &space.Space{Mem: m, Base: base, Top: top, End: len(l)}
}

func TestSpace(t *testing.T) { // P2601, W4
	for i, c := range []struct {
		s    *space.Space
		want []found
	}{
		{of(t, 0, 0), nil},
		{of(t, 1, 1, 7, 7), nil},
		{of(t, 1, 5, 7, mark|1<<1|3<<16, 5, 0xffffff, mark), nil},
		{of(t, 0, 2, mark, 5), []found{f(1, "head")}},                                                                  // Unpack's error
		{of(t, 0, 2, mark, mark|1), []found{f(1, "head")}},                                                             // Moved
		{of(t, 0, 2, mark, mark|1<<1, 0), []found{f(1, "head")}},                                                       // it does not end by Top
		{of(t, 0, 4, mark|1<<1, 4, 5, mark), []found{f(2, "head"), f(1, "ptr")}},                                       // what stands behind was not found
		{of(t, 0, 4, mark|2<<1, 2, 3, mark), []found{f(1, "ptr"), f(2, "ptr")}},                                        // within, not at a place
		{of(t, 2, 6, mark, mark, mark|3<<1, 1, math.MaxUint64, 1<<63), []found{f(3, "ptr"), f(4, "ptr"), f(5, "ptr")}}, // below, above
		{of(t, 0, 2, mark|3<<16, 1<<24), []found{f(1, "pad")}},
		{of(t, 0, 2, mark|7<<16, 1<<63), []found{f(1, "pad")}},
		{of(t, 0, 2, mark|8<<16, 1<<63), nil},
		{of(t, 0, 3, mark|9<<16, 1<<63, 0xff), nil},
		{of(t, 0, 3, mark|9<<16, 1<<63, 0x100), []found{f(2, "pad")}},
		{of(t, 0, 6, mark|1<<1|1<<16, 9, 0x100, mark|1<<1|1<<16, 8, 0x100), []found{f(1, "ptr"), f(2, "pad"), f(4, "ptr"), f(5, "pad")}},
	} {
		was := c.s.Words()
		if l := check.Space(c.s); !slices.Equal(l, c.want) || !slices.Equal(c.s.Words(), was) {
			t.Errorf("%d: %v", i, l)
		}
	}
}

func sample(t *testing.T) []uint64 {
	t.Helper()
	l, err := image.Encode(graph.Graph{
		Nodes: []graph.Node{{Ptrs: []int{2, 0}}, {Ptrs: []int{1}, Data: []byte{1, 2, 3}}},
		Roots: []graph.Root{{Name: "b", To: 2}, {Name: "c", To: 0}, {Name: "d", To: 1}},
	})
	if err != api.OK {
		t.Fatal(err)
	}
	return l // Roots at 2, 7, 12; nodes at 17 and 20, 23 words
}

func TestImage(t *testing.T) { // P2601, W5
	const size = 3 | 23<<16
	for i, c := range []struct {
		change map[int]uint64
		want   []found
	}{
		{nil, nil},
		{map[int]uint64{0: 7}, []found{f(0, "magic")}},
		{map[int]uint64{0: 7, 18: 5, 2: 0}, []found{f(0, "magic"), f(18, "ptr"), f(2, "name")}},
		{map[int]uint64{1: size | 1<<48, 18: 5}, []found{f(1, "size")}},
		{map[int]uint64{1: size | 1<<63}, []found{f(1, "size")}},
		{map[int]uint64{1: 3 | 22<<16}, []found{f(1, "size")}},
		{map[int]uint64{1: 3 | 24<<16, 0: 0}, []found{f(0, "magic"), f(1, "size")}},
		{map[int]uint64{1: 5 | 23<<16}, []found{f(1, "size")}},
		{map[int]uint64{1: 65535 | 23<<16}, []found{f(1, "size")}},
		{map[int]uint64{17: 0}, []found{f(17, "head"), f(6, "root"), f(16, "root")}},
		{map[int]uint64{20: mark | 1}, []found{f(20, "head"), f(18, "ptr"), f(6, "root")}},
		{map[int]uint64{22: 1 << 24, 21: 3}, []found{f(21, "ptr"), f(22, "pad")}},
		{map[int]uint64{6: 20, 11: 17, 16: math.MaxUint64}, []found{f(6, "root"), f(11, "root"), f(16, "root")}},
		{map[int]uint64{2: 'c'}, []found{f(7, "name")}},
		{map[int]uint64{2: 'z'}, []found{f(7, "name")}}, // d is above c, the last one, though c was found wrong
		{map[int]uint64{2: 'z', 7: 'y'}, []found{f(7, "name"), f(12, "name")}},
		{map[int]uint64{7: 0}, []found{f(7, "name")}},           // b is the last one that may be a name
		{map[int]uint64{7: 'z' | 1<<16}, []found{f(7, "name")}}, // a byte behind a 0
		{map[int]uint64{7: 'z', 8: 1}, []found{f(7, "name")}},
		{map[int]uint64{7: 0, 12: 'b'}, []found{f(7, "name"), f(12, "name")}},
		{map[int]uint64{2: 0, 7: 0, 12: 0}, []found{f(2, "name"), f(7, "name"), f(12, "name")}},
		{map[int]uint64{7: 0, 11: 5, 18: 9}, []found{f(18, "ptr"), f(7, "name"), f(11, "root")}},
	} {
		l := sample(t)
		for at, w := range c.change {
			l[at] = w
		}
		was := slices.Clone(l)
		if got := check.Image(l); !slices.Equal(got, c.want) || check.Right(l) != (len(c.want) == 0) || !slices.Equal(l, was) {
			t.Errorf("%d: %v", i, got)
		}
	}
}

func TestImagesOfFewWordsAndMany(t *testing.T) { // P2601
	many := slices.Repeat([]uint64{mark}, api.MaxWords+1)
	many[0], many[1] = 0x4d414f4c, (api.MaxWords+1)<<16
	most := slices.Clone(many[:api.MaxWords])
	most[1] = api.MaxWords << 16
	names := []uint64{0x4d414f4c, 64 | 322<<16}
	for i := range uint64(64) {
		names = append(names, 'a'+i, 0, 0, 0, 0)
	}
	roots := append([]uint64{0x4d414f4c, 65 | 327<<16}, make([]uint64, 325)...)
	for i, c := range []struct {
		l    []uint64
		want []found
	}{
		{nil, []found{f(0, "magic"), f(1, "size")}}, {[]uint64{5}, []found{f(0, "magic"), f(1, "size")}}, {[]uint64{0x4d414f4c}, []found{f(1, "size")}},
		{[]uint64{0x4d414f4c, 2 << 16}, nil}, {many, []found{f(1, "size")}}, {most, nil}, {names, nil}, {roots, []found{f(1, "size")}},
	} {
		if got := check.Image(c.l); !slices.Equal(got, c.want) {
			t.Errorf("%d: %v", i, got)
		}
	}
}

func TestRightIsWhatDecodeTakes(t *testing.T) { // P2601, T4
	for seed := range int64(20000) {
		rng := rand.New(rand.NewSource(seed))
		l := sample(t)
		for range 1 + rng.Intn(3) {
			i := rng.Intn(len(l))
			switch rng.Intn(4) {
			case 0:
				l[i] = uint64(rng.Intn(30))
			case 1:
				l[i] = mark | uint64(rng.Intn(8))<<1 | uint64(rng.Intn(20))<<16
			case 2:
				l[i] ^= 1 << rng.Intn(64)
			case 3:
				l[i] = uint64('a' + rng.Intn(5))
			}
		}
		if _, err := image.Decode(l); check.Right(l) != (err == api.OK) {
			t.Fatalf("%x: %v, %v", l, check.Image(l), err)
		}
	}
}

func TestFieldsFromOutsideEnd(t *testing.T) { // P8, P1
	wild := []int{math.MinInt, -1, 0, 1, 3, 4, math.MaxInt}
	for _, base := range wild {
		for _, top := range wild {
			s := of(t, base, top, mark, mark|1<<1|1<<16, 1, 1<<60)
			check.Space(s)
		}
	}
	check.Image([]uint64{0x4d414f4c, math.MaxUint64})
	check.Image([]uint64{0x4d414f4c, 0})
}
