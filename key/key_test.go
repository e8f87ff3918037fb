package key_test

import (
	"math"
	"slices"
	"testing"

	"loam/key"
	"loam/rec"
)

func TestPackAndUnpack(t *testing.T) { // P1001
	for _, c := range []struct {
		k rec.Key
		w uint64
	}{
		{rec.Key{}, 0}, {rec.Key{Space: 1, No: 2}, 0x100000002}, {rec.Key{Space: 0, No: -1}, 0xffffffff}, {rec.Key{Space: -1, No: 0}, 0xffffffff00000000},
		{rec.Key{Space: math.MinInt32, No: math.MaxInt32}, 0x800000007fffffff}, {rec.Key{Space: -2, No: -3}, 0xfffffffefffffffd},
	} {
		if w := key.Pack(c.k); w != c.w {
			t.Errorf("%v: %x", c.k, w)
		}
		if k := key.Unpack(c.w); k != c.k {
			t.Errorf("%x: %v", c.w, k)
		}
	}
	if w := key.Pack(rec.Key{Space: 1<<32 + 5, No: 1<<40 + 6}); w != 0x500000006 {
		t.Errorf("the lowest 32 bits: %x", w)
	}
}

func TestCompare(t *testing.T) { // P1001
	row := []rec.Key{{Space: math.MinInt, No: 5}, {Space: -1, No: 9}, {Space: 0, No: math.MinInt}, {Space: 0, No: -1}, {Space: 0, No: 0}, {Space: 0, No: math.MaxInt}, {Space: 1, No: -7}, {Space: math.MaxInt, No: 0}}
	for i, a := range row {
		for k, b := range row {
			want := 0
			if i < k {
				want = -1
			} else if i > k {
				want = 1
			}
			if c := key.Compare(a, b); c != want {
				t.Errorf("%v, %v: %d", a, b, c)
			}
		}
	}
}

func TestSorted(t *testing.T) { // P1001, P2
	l := []rec.Key{{Space: 1, No: 1}, {Space: 0, No: 2}, {Space: 1, No: 1}, {Space: 0, No: -2}}
	was := slices.Clone(l)
	got := key.Sorted(l)
	if !slices.Equal(got, []rec.Key{{Space: 0, No: -2}, {Space: 0, No: 2}, {Space: 1, No: 1}, {Space: 1, No: 1}}) {
		t.Errorf("%v", got)
	}
	if !slices.Equal(l, was) {
		t.Error("what was handed in was changed")
	}
	if len(key.Sorted(nil)) != 0 {
		t.Error("of nothing")
	}
}

func TestSet(t *testing.T) { // P1001
	var s key.Set
	a, b, c := rec.Key{Space: 1, No: 2}, rec.Key{Space: 0, No: 7}, rec.Key{Space: -1, No: 3}
	if s.Len() != 0 || len(s.Row()) != 0 || s.Has(a) || s.Remove(a) != 0 || s.Add() != 0 {
		t.Error("a zero Set is not empty")
	}
	if n := s.Add(a, b, a); n != 2 || s.Len() != 2 {
		t.Errorf("%d came", n)
	}
	if n := s.Add(b, c); n != 1 || !s.Has(c) || s.Has(rec.Key{Space: 7, No: 0}) {
		t.Errorf("%d came", n)
	}
	if r := s.Row(); !slices.Equal(r, []rec.Key{c, b, a}) {
		t.Errorf("%v", r)
	}
	s.Row()[0] = rec.Key{}
	if !s.Has(c) {
		t.Error("an answer is the Set's own")
	}
	if n := s.Remove(a, a, rec.Key{Space: 9, No: 9}); n != 1 || s.Has(a) || s.Len() != 2 {
		t.Errorf("%d went", n)
	}
}
