package obj_test

import (
	"bytes"
	"math"
	"slices"
	"testing"

	"loam/api"
	"loam/head"
	"loam/mem"
	"loam/obj"
	"loam/space"
)

const mark = 1 << 63

// sample has objects at 2 (two pointers, three bytes), 6 (no pointer, eight bytes), 8 (one pointer).
func sample(t *testing.T) *space.Space {
	t.Helper()
	m, _ := mem.New(16)
	s, err := space.New(m, 2, 14)
	if err != api.OK {
		t.Fatal(err)
	}
	for _, h := range []head.Head{{Ptrs: 2, Bytes: 3}, {Bytes: 8}, {Ptrs: 1}} {
		if _, err := s.Alloc(h); err != api.OK {
			t.Fatal(err)
		}
	}
	return s
}

func TestPtrAndSetPtr(t *testing.T) { // P1601, W4
	s := sample(t)
	for _, c := range []struct {
		at, i, to int
		err       api.Errno
	}{
		{2, 0, 8, api.OK}, {2, 1, 2, api.OK}, {8, 0, -1, api.OK}, {2, 0, 3, api.OK}, {2, 0, 9, api.OK},
		{2, 2, 2, api.ErrArg}, {2, -1, 2, api.ErrArg}, {6, 0, 2, api.ErrArg}, {2, 0, -2, api.ErrArg}, {2, 0, 1, api.ErrArg}, {2, 0, 10, api.ErrArg}, {2, 0, math.MaxInt, api.ErrArg}, {2, 0, math.MinInt, api.ErrArg}, {2, math.MaxInt, 2, api.ErrArg},
		{1, 0, 2, api.ErrArg}, {10, 0, 2, api.ErrArg}, {3, 9, 99, api.ErrForm},
	} {
		was := s.Words()
		if err := obj.SetPtr(s, c.at, c.i, c.to); err != c.err {
			t.Errorf("SetPtr(%d, %d, %d): %v", c.at, c.i, c.to, err)
		}
		if c.err != api.OK {
			if !slices.Equal(s.Words(), was) {
				t.Errorf("SetPtr(%d, %d, %d) changed a word", c.at, c.i, c.to)
			}
			continue
		}
		if to, err := obj.Ptr(s, c.at, c.i); to != c.to || err != api.OK {
			t.Errorf("Ptr(%d, %d): %d, %v", c.at, c.i, to, err)
		}
		if w, _ := s.Get(c.at + 1 + c.i); w != uint64(c.to+1) {
			t.Errorf("word %d", w)
		}
	}
	obj.SetPtr(s, 2, 0, -1)
	for _, c := range []struct {
		at, i int
		err   api.Errno
	}{{2, 2, api.ErrArg}, {2, -1, api.ErrArg}, {6, 0, api.ErrArg}, {1, 0, api.ErrArg}, {10, 0, api.ErrArg}, {math.MinInt, 0, api.ErrArg}, {3, 9, api.ErrForm}} {
		if to, err := obj.Ptr(s, c.at, c.i); to != 0 || err != c.err {
			t.Errorf("Ptr(%d, %d): %d, %v", c.at, c.i, to, err)
		}
	}
}

func TestPtrOfWrongWords(t *testing.T) { // P1601
	s := sample(t)
	for w, want := range map[uint64]api.Errno{0: api.OK, 1: api.ErrForm, 2: api.ErrForm, 3: api.OK, 4: api.OK, 10: api.OK, 11: api.ErrForm, math.MaxUint64: api.ErrForm, 1<<32 + 3: api.ErrForm, 1 << 63: api.ErrForm} {
		s.Set(3, w)
		to, err := obj.Ptr(s, 2, 0)
		if err != want || err != api.OK && to != 0 || err == api.OK && to != int(w)-1 {
			t.Errorf("%x: %d, %v", w, to, err)
		}
	}
}

func TestObjectsThatAreNot(t *testing.T) { // P1601: ahead of all else
	s := sample(t)
	s.Set(6, mark|1)    // moved
	s.Set(8, mark|2<<1) // it does not end by Top
	for _, at := range []int{6, 8} {
		if _, err := obj.Ptr(s, at, 99); err != api.ErrForm {
			t.Errorf("Ptr at %d: %v", at, err)
		}
		if err := obj.SetPtr(s, at, 99, 99); err != api.ErrForm {
			t.Errorf("SetPtr at %d: %v", at, err)
		}
		if b, err := obj.Read(s, at, 99, 99); b != nil || err != api.ErrForm {
			t.Errorf("Read at %d: %v", at, err)
		}
		if err := obj.Write(s, at, 99, nil); err != api.ErrForm {
			t.Errorf("Write at %d: %v", at, err)
		}
		if x := obj.Text(s, at); x != "form" {
			t.Errorf("Text at %d: %q", at, x)
		}
	}
}

func TestReadAndWrite(t *testing.T) { // P1601
	s := sample(t)
	for _, c := range []struct {
		at, from int
		b        string
		err      api.Errno
	}{
		{2, 0, "abc", api.OK}, {2, 1, "z", api.OK}, {2, 3, "", api.OK}, {6, 0, "12345678", api.OK}, {8, 0, "", api.OK},
		{2, 0, "abcd", api.ErrArg}, {2, 3, "a", api.ErrArg}, {2, 4, "", api.ErrArg}, {2, -1, "", api.ErrArg}, {6, math.MaxInt, "a", api.ErrArg}, {6, math.MinInt, "", api.ErrArg}, {8, 0, "a", api.ErrArg}, {1, 0, "", api.ErrArg}, {4, 0, "", api.ErrForm},
	} {
		was := s.Words()
		if err := obj.Write(s, c.at, c.from, []byte(c.b)); err != c.err {
			t.Errorf("Write(%d, %d, %q): %v", c.at, c.from, c.b, err)
		}
		b, err := obj.Read(s, c.at, c.from, len(c.b))
		if err != c.err || err == api.OK && string(b) != c.b || err != api.OK && (b != nil || !slices.Equal(s.Words(), was)) {
			t.Errorf("Read(%d, %d): %q, %v", c.at, c.from, b, err)
		}
	}
	if w, _ := s.Get(5); w != 'a'|'z'<<8|'c'<<16 {
		t.Errorf("%x", w)
	}
	for _, n := range []int{-1, 4, math.MaxInt, math.MinInt} {
		if b, err := obj.Read(s, 2, 0, n); b != nil || err != api.ErrArg {
			t.Errorf("%d bytes: %v", n, err)
		}
	}
	b, _ := obj.Read(s, 6, 0, 8)
	b[0] = 0
	if b, _ := obj.Read(s, 6, 0, 8); !bytes.Equal(b, []byte("12345678")) {
		t.Error("shared")
	}
}

func TestWell(t *testing.T) { // P1601
	for i, c := range []struct {
		change func(s *space.Space)
		want   api.Errno
	}{
		{func(s *space.Space) {}, api.OK},
		{func(s *space.Space) { obj.SetPtr(s, 2, 0, 8); obj.Write(s, 2, 0, []byte{1, 2, 3}) }, api.OK},
		{func(s *space.Space) { obj.SetPtr(s, 2, 0, 3) }, api.ErrForm},
		{func(s *space.Space) { s.Set(9, 11) }, api.ErrForm},
		{func(s *space.Space) { s.Set(9, math.MaxUint64) }, api.ErrForm},
		{func(s *space.Space) { s.Set(5, 1<<24) }, api.ErrForm},
		{func(s *space.Space) { s.Set(5, 1<<63) }, api.ErrForm},
		{func(s *space.Space) { s.Set(5, 1<<24-1) }, api.OK},
		{func(s *space.Space) { s.Set(7, math.MaxUint64) }, api.OK},
		{func(s *space.Space) { s.Set(6, mark|1) }, api.ErrForm},
		{func(s *space.Space) { s.Top = 9 }, api.ErrForm},
		{func(s *space.Space) { s.Top = 11 }, api.ErrForm},
		{func(s *space.Space) { s.Set(0, 5); s.Set(15, 5) }, api.OK},
	} {
		s := sample(t)
		c.change(s)
		if err := obj.Well(s); err != c.want {
			t.Errorf("%d: %v", i, err)
		}
	}
}

func TestText(t *testing.T) { // P1601
	s := sample(t)
	obj.SetPtr(s, 2, 1, 8)
	obj.Write(s, 2, 0, []byte{0, 0x1a, 0xff})
	for at, want := range map[int]string{2: "2 3: - 8 001aff", 6: "0 8: 0000000000000000", 8: "1 0: -", 1: "arg", 10: "arg", 3: "form"} {
		if x := obj.Text(s, at); x != want {
			t.Errorf("%d: %q", at, x)
		}
	}
	s.Set(9, 99)
	if x := obj.Text(s, 8); x != "form" {
		t.Errorf("%q", x)
	}
	m, _ := mem.New(1)
	e, _ := space.New(m, 0, 1)
	e.Alloc(head.Head{})
	if x := obj.Text(e, 0); x != "0 0:" {
		t.Errorf("%q", x)
	}
}

func TestFieldsFromOutsideEnd(t *testing.T) { // P8, P1
	wild := []int{math.MinInt, -1, 0, 2, 5, 9, 10, 16, math.MaxInt}
	for _, base := range wild {
		for _, top := range wild {
			s := sample(t)
			s.Base, s.Top = base, top
			for _, at := range wild {
				obj.Ptr(s, at, 0)
				obj.SetPtr(s, at, 0, at)
				obj.Read(s, at, 0, 3)
				obj.Write(s, at, 0, []byte{1})
				obj.Text(s, at)
			}
			obj.Well(s)
		}
	}
}
