package codec_test

import (
	"bytes"
	"math"
	"slices"
	"testing"

	"loam/api"
	"loam/codec"
)

func TestUintBytes(t *testing.T) { // P501
	for _, c := range []struct {
		v    uint64
		want []byte
	}{
		{0, []byte{0}}, {1, []byte{1}}, {127, []byte{127}}, {128, []byte{0x80, 1}}, {300, []byte{0xac, 2}}, {1 << 14, []byte{0x80, 0x80, 1}},
		{math.MaxUint64, []byte{0xff, 0xff, 0xff, 0xff, 0xff, 0xff, 0xff, 0xff, 0xff, 1}}, {1 << 63, []byte{0x80, 0x80, 0x80, 0x80, 0x80, 0x80, 0x80, 0x80, 0x80, 1}},
	} {
		var e codec.Enc
		e.Uint(c.v)
		if !bytes.Equal(e.Bytes(), c.want) {
			t.Errorf("%d: %x", c.v, e.Bytes())
		}
		d := codec.Of(c.want)
		if v := d.Uint(); v != c.v || d.Err() != api.OK || d.Left() != 0 {
			t.Errorf("%x: %d, %v, %d", c.want, v, d.Err(), d.Left())
		}
	}
}

func TestIntBytes(t *testing.T) { // P501
	for v, want := range map[int64]uint64{0: 0, -1: 1, 1: 2, -2: 3, 63: 126, -64: 127, 64: 128, math.MaxInt64: math.MaxUint64 - 1, math.MinInt64: math.MaxUint64} {
		var e, f codec.Enc
		e.Int(v)
		f.Uint(want)
		if !bytes.Equal(e.Bytes(), f.Bytes()) {
			t.Errorf("%d: %x", v, e.Bytes())
		}
		if x := codec.Of(e.Bytes()).Int(); x != v {
			t.Errorf("%d came back as %d", v, x)
		}
	}
}

func TestRawAndWords(t *testing.T) { // P501
	var e codec.Enc
	if len(e.Bytes()) != 0 {
		t.Error("a zero Enc is not empty")
	}
	e.Raw([]byte{7, 8, 9})
	e.Words(1, 0x1122334455667788)
	e.Raw(nil)
	e.Words()
	want := []byte{3, 7, 8, 9, 2, 1, 0, 0, 0, 0, 0, 0, 0, 0x88, 0x77, 0x66, 0x55, 0x44, 0x33, 0x22, 0x11, 0, 0}
	if !bytes.Equal(e.Bytes(), want) {
		t.Fatalf("%x", e.Bytes())
	}
	d := codec.Of(want)
	if b := d.Raw(); !bytes.Equal(b, []byte{7, 8, 9}) || d.Left() != len(want)-4 {
		t.Errorf("%x, %d", b, d.Left())
	}
	if l := d.Words(); !slices.Equal(l, []uint64{1, 0x1122334455667788}) {
		t.Errorf("%x", l)
	}
	if len(d.Raw()) != 0 || len(d.Words()) != 0 || d.Left() != 0 || d.Err() != api.OK {
		t.Errorf("%d, %v", d.Left(), d.Err())
	}
}

func TestWrongUints(t *testing.T) { // P501, P6
	for _, c := range []struct {
		b    []byte
		want api.Errno
	}{
		{nil, api.ErrLong}, {[]byte{0x80}, api.ErrLong}, {[]byte{0xff, 0xff}, api.ErrLong}, {bytes.Repeat([]byte{0x80}, 9), api.ErrLong},
		{[]byte{0x80, 0}, api.ErrForm}, {[]byte{0xff, 0x80, 0}, api.ErrForm},
		{append(bytes.Repeat([]byte{0xff}, 9), 2), api.ErrForm}, {append(bytes.Repeat([]byte{0x80}, 9), 0), api.ErrForm},
		{bytes.Repeat([]byte{0x80}, 10), api.ErrForm}, {append(bytes.Repeat([]byte{0xff}, 10), 1), api.ErrForm}, {bytes.Repeat([]byte{0xff}, 30), api.ErrForm},
	} {
		for i := range 4 {
			d := codec.Of(c.b)
			switch i {
			case 0:
				d.Uint()
			case 1:
				d.Int()
			case 2:
				d.Raw()
			case 3:
				d.Words()
			}
			if d.Err() != c.want || d.Left() != 0 {
				t.Errorf("%x, %d: %v, %d left", c.b, i, d.Err(), d.Left())
			}
		}
	}
}

func TestTooShort(t *testing.T) { // P501
	for _, b := range [][]byte{{1}, {3, 1, 2}, {0xff, 0xff, 0xff, 0xff, 0xff, 0xff, 0xff, 0xff, 0xff, 1, 5}} {
		d := codec.Of(b)
		if x := d.Raw(); len(x) != 0 || d.Err() != api.ErrLong {
			t.Errorf("Raw of %x: %x, %v", b, x, d.Err())
		}
	}
	// The last has as many words as would be 8 bytes, were the product taken in 64 bits.
	for _, b := range [][]byte{{1}, {1, 1, 2, 3, 4, 5, 6, 7}, {2, 1, 2, 3, 4, 5, 6, 7, 8}, {0x81, 0x80, 0x80, 0x80, 0x80, 0x80, 0x80, 0x80, 0x20, 1, 2, 3, 4, 5, 6, 7, 8}} {
		d := codec.Of(b)
		if x := d.Words(); len(x) != 0 || d.Err() != api.ErrLong {
			t.Errorf("Words of %x: %x, %v", b, x, d.Err())
		}
	}
}

func TestAllIsZeroBehindAnError(t *testing.T) { // P501
	d := codec.Of([]byte{0x80, 0, 5, 1, 1, 1, 1, 1})
	d.Uint()
	if d.Uint() != 0 || d.Int() != 0 || len(d.Raw()) != 0 || len(d.Words()) != 0 || d.Left() != 0 || d.Err() != api.ErrForm {
		t.Errorf("%d left, %v", d.Left(), d.Err())
	}
	d = codec.Of([]byte{9, 1})
	d.Raw()
	if d.Uint() != 0 || d.Err() != api.ErrLong {
		t.Error(d.Err())
	}
}

func TestNothingIsShared(t *testing.T) { // P2
	b := []byte{2, 5, 6, 1}
	d := codec.Of(b)
	b[1] = 9
	x := d.Raw()
	if !bytes.Equal(x, []byte{5, 6}) {
		t.Errorf("%x", x)
	}
	x = append(x[:2], 77, 78)
	if v := d.Uint(); v != 1 {
		t.Errorf("an answer's spare room is the Dec's: %d", v)
	}
	var e codec.Enc
	e.Uint(1)
	y := e.Bytes()
	e.Uint(2)
	_ = append(y, 9)
	y[0] = 9
	if !bytes.Equal(e.Bytes(), []byte{1, 2}) {
		t.Errorf("%x", e.Bytes())
	}
}
