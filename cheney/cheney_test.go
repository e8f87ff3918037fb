package cheney_test

import (
	"math"
	"math/rand"
	"slices"
	"testing"

	"loam/api"
	"loam/cheney"
	"loam/head"
	"loam/mem"
	"loam/obj"
	"loam/space"
)

const mark = 1 << 63

// sample has objects at 2 (to 9 and 2), 5 (one byte, reached from 9), 7 (to 5), 9 (to 5, to nothing, and to 2), 13 (two bytes, alone).
func sample(t *testing.T) *space.Space {
	t.Helper()
	m, _ := mem.New(20)
	s, _ := space.New(m, 2, 18)
	for _, h := range []head.Head{{Ptrs: 2}, {Bytes: 1}, {Ptrs: 1}, {Ptrs: 3}, {Bytes: 2}} {
		if _, err := s.Alloc(h); err != api.OK {
			t.Fatal(err)
		}
	}
	for _, p := range [][3]int{{2, 0, 9}, {2, 1, 2}, {7, 0, 5}, {9, 0, 5}, {9, 2, 2}} {
		if err := obj.SetPtr(s, p[0], p[1], p[2]); err != api.OK {
			t.Fatal(err)
		}
	}
	obj.Write(s, 5, 0, []byte{0x55})
	obj.Write(s, 13, 0, []byte{1, 2})
	return s
}

func TestCopyIsCheneys(t *testing.T) { // P2101, W4, T3
	s := sample(t)
	was := *s
	words := s.Words()
	to, went, err := cheney.Copy(s, []int{13, -1, 2, 13}, 13)
	if err != api.OK || !slices.Equal(went, []int{0, -1, 2, 0}) {
		t.Fatal(went, err)
	}
	want := []uint64{mark | 2<<16, 0x201, mark | 2<<1, 6, 3, mark | 3<<1, 10, 0, 3, mark | 1<<16, 0x55, 0, 0}
	if !slices.Equal(to.Words(), want) || to.Base != 0 || to.Top != 11 || to.End != 13 {
		t.Errorf("%x, %d, %d, %d", to.Words(), to.Base, to.Top, to.End)
	}
	if *s != was || !slices.Equal(s.Words(), words) {
		t.Error("s was changed")
	}
	if n, err := cheney.Live(s, []int{13, -1, 2, 13}); n != 11 || err != api.OK {
		t.Error(n, err)
	}
}

func TestCopyOfNothing(t *testing.T) { // P2101
	for _, roots := range [][]int{nil, {-1, -1}} {
		to, went, err := cheney.Copy(sample(t), roots, 0)
		if err != api.OK || to.Used() != 0 || to.Len() != 0 || len(went) != len(roots) {
			t.Error(to, went, err)
		}
		if n, err := cheney.Live(sample(t), roots); n != 0 || err != api.OK {
			t.Error(n, err)
		}
	}
}

func TestErrors(t *testing.T) { // P2101, P4, P6
	bad := sample(t)
	bad.Set(3, 4)
	for i, c := range []struct {
		s     *space.Space
		roots []int
		words int
		want  api.Errno
	}{
		{sample(t), nil, -1, api.ErrArg}, {sample(t), nil, api.MaxWords + 1, api.ErrArg}, {sample(t), nil, math.MinInt, api.ErrArg}, {sample(t), nil, api.MaxWords, api.OK},
		{bad, nil, 10, api.ErrForm}, {bad, []int{3}, 10, api.ErrForm}, {bad, nil, -1, api.ErrArg},
		{sample(t), []int{3}, 20, api.ErrArg}, {sample(t), []int{15}, 20, api.ErrArg}, {sample(t), []int{-2}, 20, api.ErrArg}, {sample(t), []int{2, 13, 0}, 1, api.ErrArg}, {sample(t), []int{math.MaxInt}, 20, api.ErrArg},
		{sample(t), []int{2}, 8, api.ErrFull}, {sample(t), []int{13, 2}, 10, api.ErrFull}, {sample(t), []int{2}, 9, api.OK}, {sample(t), []int{13}, 1, api.ErrFull}, {sample(t), []int{13}, 2, api.OK},
	} {
		to, went, err := cheney.Copy(c.s, c.roots, c.words)
		if err != c.want || err != api.OK && (to != nil || went != nil) {
			t.Errorf("%d: %v", i, err)
		}
	}
	for i, c := range []struct {
		s     *space.Space
		roots []int
		want  api.Errno
	}{{bad, []int{3}, api.ErrForm}, {sample(t), []int{3}, api.ErrArg}} {
		if n, err := cheney.Live(c.s, c.roots); n != 0 || err != c.want {
			t.Errorf("%d: %d, %v", i, n, err)
		}
	}
	cheney.Copy(nil, nil, 5) // P8
	cheney.Live(nil, nil)
}

// shape tells what comes from roots, place by place as it comes, without a word of places.
func shape(t *testing.T, s *space.Space, roots []int) [][]int {
	t.Helper()
	now := map[int]int{-1: -1}
	var order []int
	meet := func(at int) int {
		if _, ok := now[at]; !ok {
			now[at] = len(order)
			order = append(order, at)
		}
		return now[at]
	}
	var first []int
	for _, r := range roots {
		first = append(first, meet(r))
	}
	out := [][]int{first}
	for i := 0; i < len(order); i++ {
		h, err := s.Head(order[i])
		if err != api.OK {
			t.Fatal(err)
		}
		row := []int{h.Ptrs, h.Bytes}
		for k := range h.Ptrs {
			to, err := obj.Ptr(s, order[i], k)
			if err != api.OK {
				t.Fatal(err)
			}
			row = append(row, meet(to))
		}
		b, _ := obj.Read(s, order[i], 0, h.Bytes)
		for _, x := range b {
			row = append(row, int(x))
		}
		out = append(out, row)
	}
	return out
}

// random makes a space of any objects, and roots in it.
func random(t *testing.T, rng *rand.Rand) (*space.Space, []int) {
	t.Helper()
	m, _ := mem.New(300)
	s, _ := space.New(m, rng.Intn(9), 300)
	for {
		if _, err := s.Alloc(head.Head{Ptrs: rng.Intn(5), Bytes: rng.Intn(20)}); err != api.OK {
			break
		}
	}
	l, err := s.Objects()
	if err != api.OK {
		t.Fatal(err)
	}
	for _, at := range l {
		h, _ := s.Head(at)
		for i := range h.Ptrs {
			if rng.Intn(2) == 0 {
				obj.SetPtr(s, at, i, l[rng.Intn(len(l))])
			}
		}
		b := make([]byte, h.Bytes)
		rng.Read(b)
		obj.Write(s, at, 0, b)
	}
	roots := []int{-1}
	for range rng.Intn(4) {
		roots = append(roots, l[rng.Intn(len(l))])
	}
	return s, roots
}

func TestCopyKeepsWhatIsReached(t *testing.T) { // P2101, T3
	for seed := range int64(200) {
		rng := rand.New(rand.NewSource(seed))
		s, roots := random(t, rng)
		n, err := cheney.Live(s, roots)
		if err != api.OK {
			t.Fatal(err)
		}
		if _, _, err := cheney.Copy(s, roots, max(n-1, 0)); n > 0 && err != api.ErrFull {
			t.Errorf("seed %d: %v", seed, err)
		}
		to, went, err := cheney.Copy(s, roots, n)
		if err != api.OK || obj.Well(to) != api.OK || to.Used() != n {
			t.Fatalf("seed %d: %v", seed, err)
		}
		a, b := shape(t, s, roots), shape(t, to, went)
		if !slices.EqualFunc(a, b, slices.Equal) {
			t.Errorf("seed %d: %v, %v", seed, a, b)
		}
		// They stand in the order in which they come.
		if l, _ := to.Objects(); len(l) != len(b)-1 {
			t.Errorf("seed %d: %d objects, not %d", seed, len(l), len(b)-1)
		}
	}
}

func TestFieldsFromOutsideEnd(t *testing.T) { // P8, P1
	wild := []int{math.MinInt, -1, 0, 2, 5, 7, 20, math.MaxInt}
	for _, base := range wild {
		for _, top := range wild {
			s := sample(t)
			s.Base, s.Top = base, top
			cheney.Copy(s, []int{-1, 2, base, top}, 20)
			cheney.Copy(s, nil, 20)
			cheney.Live(s, []int{-1, 5})
		}
	}
}
