package space_test

import (
	"math"
	"slices"
	"testing"

	"loam/api"
	"loam/head"
	"loam/mem"
	"loam/space"
)

const mark = 1 << 63

func of(t *testing.T, l ...uint64) *mem.Mem {
	t.Helper()
	m, err := mem.Of(l)
	if err != api.OK {
		t.Fatal(err)
	}
	return m
}

func TestNew(t *testing.T) { // P1501
	m := of(t, make([]uint64, 10)...)
	for _, c := range [][2]int{{0, 0}, {0, 10}, {3, 7}, {10, 10}} {
		s, err := space.New(m, c[0], c[1])
		if err != api.OK || s.Base != c[0] || s.Top != c[0] || s.End != c[1] || s.Mem != m || s.Used() != 0 || s.Free() != c[1]-c[0] {
			t.Errorf("New(%v): %v, %v", c, s, err)
		}
	}
	for _, c := range [][2]int{{-1, 5}, {0, 11}, {6, 5}, {11, 11}, {math.MinInt, math.MaxInt}, {math.MaxInt, math.MaxInt}, {0, -1}} {
		if s, err := space.New(m, c[0], c[1]); s != nil || err != api.ErrArg {
			t.Errorf("New(%v): %v", c, err)
		}
	}
	if s, err := space.New(nil, 0, 0); s != nil || err != api.ErrArg {
		t.Error(err)
	}
}

func TestOf(t *testing.T) { // P1501, P6
	// An object of one pointer, an empty one, one of nine bytes.
	m := of(t, 7, mark|2, 0, mark, mark|9<<16, 1, 1, 9, mark|1)
	for _, c := range []struct {
		base, top, end int
		want           api.Errno
	}{
		{1, 7, 9, api.OK}, {1, 7, 7, api.OK}, {1, 1, 9, api.OK}, {3, 4, 5, api.OK}, {4, 7, 9, api.OK},
		{0, 7, 9, api.ErrForm}, {1, 6, 9, api.ErrForm}, {1, 8, 9, api.ErrForm}, {2, 7, 9, api.ErrForm}, {8, 9, 9, api.ErrForm}, {1, 2, 9, api.ErrForm},
		{1, 0, 9, api.ErrArg}, {1, 7, 6, api.ErrArg}, {-1, 7, 9, api.ErrArg}, {0, 7, 10, api.ErrArg}, {1, math.MaxInt, math.MaxInt, api.ErrArg},
	} {
		s, err := space.Of(m, c.base, c.top, c.end)
		if err != c.want || err != api.OK && s != nil {
			t.Errorf("%v: %v", c, err)
		}
	}
	if s, err := space.Of(nil, 0, 0, 0); s != nil || err != api.ErrArg {
		t.Error(err)
	}
	s, _ := space.Of(m, 1, 7, 9)
	if l, err := s.Objects(); err != api.OK || !slices.Equal(l, []int{1, 3, 4}) || s.Used() != 6 || s.Free() != 2 {
		t.Errorf("%v, %v", l, err)
	}
}

func TestAlloc(t *testing.T) { // P1501, W4
	m := of(t, slices.Repeat([]uint64{5}, 12)...)
	s, _ := space.New(m, 1, 11)
	for _, c := range []struct {
		h    head.Head
		at   int
		want api.Errno
	}{
		{head.Head{Ptrs: 2, Bytes: 9}, 1, api.OK}, {head.Head{Ptrs: 65}, 0, api.ErrArg}, {head.Head{Moved: true}, 0, api.ErrArg}, {head.Head{Bytes: 1025}, 0, api.ErrArg},
		{head.Head{Ptrs: 5}, 0, api.ErrFull}, {head.Head{}, 6, api.OK}, {head.Head{Ptrs: 4}, 0, api.ErrFull}, {head.Head{Ptrs: 3}, 7, api.OK}, {head.Head{}, 0, api.ErrFull},
	} {
		if at, err := s.Alloc(c.h); at != c.at || err != c.want {
			t.Errorf("%v: %d, %v", c.h, at, err)
		}
	}
	want := []uint64{5, mark | 2<<1 | 9<<16, 0, 0, 0, 0, mark, mark | 3<<1, 0, 0, 0, 5}
	if !slices.Equal(m.Words(), want) || s.Top != 11 || s.Free() != 0 {
		t.Errorf("%x, %d", m.Words(), s.Top)
	}
	if l, err := s.Objects(); err != api.OK || !slices.Equal(l, []int{1, 6, 7}) {
		t.Errorf("%v, %v", l, err)
	}
}

func TestHead(t *testing.T) { // P1501, P4
	m := of(t, mark|1|5<<32, mark|2, 0, mark)
	s := &space.Space{Mem: m, Base: 0, Top: 3, End: 4}
	for _, c := range []struct {
		at   int
		want head.Head
		err  api.Errno
	}{{0, head.Head{Moved: true, To: 5}, api.OK}, {1, head.Head{Ptrs: 1}, api.OK}, {2, head.Head{}, api.ErrForm}, {3, head.Head{}, api.ErrArg}, {-1, head.Head{}, api.ErrArg}, {math.MaxInt, head.Head{}, api.ErrArg}} {
		if h, err := s.Head(c.at); h != c.want || err != c.err {
			t.Errorf("%d: %v, %v", c.at, h, err)
		}
	}
	if l, err := s.Objects(); l != nil || err != api.ErrForm {
		t.Errorf("a moved one: %v, %v", l, err)
	}
}

func TestResetAndApart(t *testing.T) { // P1501, P7
	m := of(t, slices.Repeat([]uint64{5}, 6)...)
	s, _ := space.New(m, 1, 5)
	s.Alloc(head.Head{Ptrs: 1})
	a := s.Apart()
	if a.Base != 1 || a.Top != 3 || a.End != 5 || !slices.Equal(a.Words(), s.Words()) {
		t.Errorf("%v", a)
	}
	s.Reset()
	if s.Top != 1 || !slices.Equal(s.Words(), []uint64{5, 0, 0, 0, 0, 5}) {
		t.Errorf("%v, %v", s.Top, s.Words())
	}
	if w, _ := a.Get(1); w != mark|2 || a.Top != 3 {
		t.Error("not apart")
	}
}

func TestFieldsFromOutsideEnd(t *testing.T) { // P1501, P8, P1
	wild := []int{math.MinInt, -1, 0, 3, 4, 5, math.MaxInt}
	for _, base := range wild {
		for _, top := range wild {
			for _, end := range wild {
				s := &space.Space{Mem: of(t, mark, mark, 0, mark|1), Base: base, Top: top, End: end}
				s.Objects()
				s.Used()
				s.Free()
				for _, at := range wild {
					s.Head(at)
				}
				s.Apart().Alloc(head.Head{Ptrs: 2})
				s.Reset()
			}
		}
	}
}
