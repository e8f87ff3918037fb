package mem_test

import (
	"bytes"
	"math"
	"slices"
	"testing"

	"loam/api"
	"loam/mem"
)

func of(t *testing.T, l ...uint64) *mem.Mem {
	t.Helper()
	m, err := mem.Of(l)
	if err != api.OK {
		t.Fatal(err)
	}
	return m
}

func TestNewAndOf(t *testing.T) { // P1301, P2
	for n, want := range map[int]api.Errno{0: api.OK, 1: api.OK, api.MaxWords: api.OK, api.MaxWords + 1: api.ErrArg, -1: api.ErrArg, math.MinInt: api.ErrArg, math.MaxInt: api.ErrArg} {
		m, err := mem.New(n)
		if err != want || err != api.OK && m != nil {
			t.Errorf("New(%d): %v", n, err)
		}
		if err == api.OK && (m.Len() != n || slices.ContainsFunc(m.Words(), func(w uint64) bool { return w != 0 })) {
			t.Errorf("New(%d): %d words", n, m.Len())
		}
	}
	if m, err := mem.Of(make([]uint64, api.MaxWords+1)); m != nil || err != api.ErrArg {
		t.Error(err)
	}
	of(t, make([]uint64, api.MaxWords)...)
	l := []uint64{1, 2}
	m := of(t, l...)
	l[0] = 9
	m.Words()[1] = 9
	if !slices.Equal(m.Words(), []uint64{1, 2}) || of(t).Len() != 0 {
		t.Error("shared")
	}
}

func TestGetAndSet(t *testing.T) { // P1301
	m := of(t, 5, 6, 7)
	if err := m.Set(1, math.MaxUint64); err != api.OK {
		t.Error(err)
	}
	if w, err := m.Get(1); w != math.MaxUint64 || err != api.OK {
		t.Error(w, err)
	}
	for _, i := range []int{-1, 3, math.MinInt, math.MaxInt} {
		if w, err := m.Get(i); w != 0 || err != api.ErrArg {
			t.Errorf("Get(%d): %d, %v", i, w, err)
		}
		if err := m.Set(i, 1); err != api.ErrArg {
			t.Errorf("Set(%d): %v", i, err)
		}
	}
}

func TestBytes(t *testing.T) { // P1301
	m := of(t, 0x8877665544332211, 0xffeeddccbbaa9900)
	all := []byte{0x11, 0x22, 0x33, 0x44, 0x55, 0x66, 0x77, 0x88, 0x00, 0x99, 0xaa, 0xbb, 0xcc, 0xdd, 0xee, 0xff}
	for at := range 17 {
		for n := range 17 - at {
			if b, err := m.Bytes(at, n); err != api.OK || !bytes.Equal(b, all[at:at+n]) {
				t.Errorf("Bytes(%d, %d): %x, %v", at, n, b, err)
			}
		}
	}
	for _, c := range [][2]int{{-1, 1}, {0, -1}, {0, 17}, {16, 1}, {17, 0}, {math.MaxInt, 1}, {1, math.MaxInt}, {math.MinInt, 0}, {5, math.MinInt}} {
		if b, err := m.Bytes(c[0], c[1]); b != nil || err != api.ErrArg {
			t.Errorf("Bytes(%v): %x, %v", c, b, err)
		}
	}
}

func TestSetBytes(t *testing.T) { // P1301, P5
	for at := range 17 {
		for n := range 17 - at {
			m := of(t, 0x1111111111111111, 0x2222222222222222)
			want, _ := m.Bytes(0, 16)
			b := bytes.Repeat([]byte{0xab}, n)
			copy(want[at:], b)
			if err := m.SetBytes(at, b); err != api.OK {
				t.Error(err)
			}
			if got, _ := m.Bytes(0, 16); !bytes.Equal(got, want) {
				t.Errorf("SetBytes(%d, %d): %x", at, n, got)
			}
		}
	}
	m := of(t, 1, 2)
	for at, n := range map[int]int{-1: 1, 10: 7, 17: 0, math.MaxInt: 1, math.MinInt: 0, 16: 1, 0: 17} {
		if err := m.SetBytes(at, make([]byte, n)); err != api.ErrArg || !slices.Equal(m.Words(), []uint64{1, 2}) {
			t.Errorf("SetBytes(%d, %d): %v", at, n, err)
		}
	}
}

func TestMove(t *testing.T) { // P1301
	for _, c := range []struct {
		to, from, n int
		want        []uint64
	}{{0, 1, 3, []uint64{2, 3, 4, 4, 5}}, {1, 0, 4, []uint64{1, 1, 2, 3, 4}}, {0, 0, 5, []uint64{1, 2, 3, 4, 5}}, {5, 0, 0, []uint64{1, 2, 3, 4, 5}}, {0, 5, 0, []uint64{1, 2, 3, 4, 5}}, {4, 0, 1, []uint64{1, 2, 3, 4, 1}}} {
		m := of(t, 1, 2, 3, 4, 5)
		if err := m.Move(c.to, c.from, c.n); err != api.OK || !slices.Equal(m.Words(), c.want) {
			t.Errorf("%v: %v, %v", c, m.Words(), err)
		}
	}
	m := of(t, 1, 2, 3)
	for _, c := range [][3]int{{-1, 0, 1}, {0, -1, 1}, {0, 0, -1}, {0, 0, 4}, {1, 0, 3}, {0, 1, 3}, {4, 0, 0}, {0, 4, 0}, {math.MaxInt, 0, 1}, {0, 0, math.MaxInt}, {0, math.MinInt, math.MinInt}} {
		if err := m.Move(c[0], c[1], c[2]); err != api.ErrArg || !slices.Equal(m.Words(), []uint64{1, 2, 3}) {
			t.Errorf("%v: %v", c, err)
		}
	}
}

func TestTwinIsApart(t *testing.T) { // P1301, P7
	m := of(t, 1, 2)
	w := m.Twin()
	m.Set(0, 5)
	w.Set(1, 6)
	if !slices.Equal(m.Words(), []uint64{5, 2}) || !slices.Equal(w.Words(), []uint64{1, 6}) {
		t.Error("not apart")
	}
}
