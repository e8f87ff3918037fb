package bits_test

import (
	"bytes"
	"math"
	"testing"

	"loam/api"
	"loam/bits"
)

func TestGetTellsLowestByteFirst(t *testing.T) { // P101
	b := []byte{0x11, 0x22, 0x33, 0x44, 0x55, 0x66, 0x77, 0x88, 0x99}
	for _, c := range []struct {
		at, n int
		want  uint64
	}{{0, 1, 0x11}, {8, 1, 0x99}, {1, 3, 0x443322}, {0, 8, 0x8877665544332211}, {1, 8, 0x9988776655443322}} {
		if v, err := bits.Get(b, c.at, c.n); v != c.want || err != api.OK {
			t.Errorf("Get(%d, %d): %x, %v", c.at, c.n, v, err)
		}
	}
}

func TestGetAndPutRefuse(t *testing.T) { // P101, P4, P9
	b := make([]byte, 9)
	for _, c := range [][2]int{{0, 0}, {0, -1}, {0, 9}, {-1, 1}, {9, 1}, {2, 8}, {10, 1}, {math.MaxInt, 8}, {math.MinInt, 1}, {0, math.MaxInt}, {0, math.MinInt}} {
		if v, err := bits.Get(b, c[0], c[1]); v != 0 || err != api.ErrArg {
			t.Errorf("Get(%d, %d): %x, %v", c[0], c[1], v, err)
		}
		if x, err := bits.Put(b, c[0], c[1], 1); len(x) != 0 || err != api.ErrArg {
			t.Errorf("Put(%d, %d): %x, %v", c[0], c[1], x, err)
		}
	}
	if _, err := bits.Get(nil, 0, 1); err != api.ErrArg {
		t.Errorf("Get of nothing: %v", err)
	}
}

func TestPutAnswersACopy(t *testing.T) { // P101, P2
	room := []byte{1, 2, 3, 4, 5}
	b := room[:4]
	x, err := bits.Put(b, 1, 2, 0xaabbccdd)
	if err != api.OK || !bytes.Equal(x, []byte{1, 0xdd, 0xcc, 4}) {
		t.Fatalf("%x, %v", x, err)
	}
	x[0] = 9
	_ = append(x, 9)
	if !bytes.Equal(room, []byte{1, 2, 3, 4, 5}) {
		t.Errorf("what was handed in was changed: %x", room)
	}
}

func TestSign(t *testing.T) { // P101
	for _, c := range []struct {
		v    uint64
		bits int
		want int64
	}{{0xff, 8, -1}, {0x7f, 8, 127}, {0x80, 8, -128}, {0x180, 8, -128}, {1, 1, -1}, {0, 1, 0}, {math.MaxUint64, 64, -1}, {1 << 63, 64, math.MinInt64}, {1 << 62, 63, -1 << 62}, {7, 0, 0}, {7, -1, 0}, {7, 65, 0}, {7, math.MinInt, 0}} {
		if v := bits.Sign(c.v, c.bits); v != c.want {
			t.Errorf("Sign(%x, %d): %d", c.v, c.bits, v)
		}
		if v := bits.Narrow(int64(c.v), c.bits); v != c.want {
			t.Errorf("Narrow(%x, %d): %d", c.v, c.bits, v)
		}
	}
}

func TestFitsIsNarrowToItself(t *testing.T) { // P101
	for _, c := range []struct {
		v    int64
		bits int
		want bool
	}{{127, 8, true}, {128, 8, false}, {-128, 8, true}, {-129, 8, false}, {math.MinInt64, 64, true}, {0, 0, true}, {1, 0, false}, {1, 65, false}, {-1, 1, true}, {1, 1, false}} {
		if bits.Fits(c.v, c.bits) != c.want {
			t.Errorf("Fits(%d, %d)", c.v, c.bits)
		}
	}
}

func TestFieldAndWith(t *testing.T) { // P101
	const w = 0x0123456789abcdef
	for _, c := range []struct {
		at, n       int
		field, with uint64
	}{
		{0, 8, 0xef, 0x0123456789abcd5a}, {4, 4, 0xe, 0x0123456789abcdaf}, {56, 8, 0x01, 0x5a23456789abcdef},
		{0, 64, w, 0x5a}, {63, 1, 0, w}, {62, 1, 0, w}, {1, 1, 1, w &^ 2}, {0, 1, 1, w &^ 1}, {-1, 4, 0, w}, {64, 1, 0, w}, {63, 2, 0, w}, {0, 0, 0, w}, {0, 65, 0, w},
		{1, math.MaxInt, 0, w}, {math.MaxInt, 1, 0, w}, {math.MinInt, 64, 0, w},
	} {
		if f := bits.Field(w, c.at, c.n); f != c.field {
			t.Errorf("Field(%d, %d): %x", c.at, c.n, f)
		}
		if x := bits.With(w, c.at, c.n, 0x5a); x != c.with {
			t.Errorf("With(%d, %d): %x", c.at, c.n, x)
		}
	}
}

func TestHighestBit(t *testing.T) { // P101
	if f := bits.Field(1<<63, 63, 1); f != 1 {
		t.Errorf("%x", f)
	}
	if w := bits.With(0, 63, 1, 3); w != 1<<63 {
		t.Errorf("%x", w)
	}
}

func TestTurn(t *testing.T) { // P101
	const w = 0x8000000000000001
	for k, want := range map[int]uint64{0: w, 1: 3, -1: 0xc000000000000000, 64: w, 65: 3, -64: w, -65: 0xc000000000000000, math.MinInt: w, math.MaxInt: 0xc000000000000000} {
		if x := bits.Turn(w, k); x != want {
			t.Errorf("Turn(%d): %x", k, x)
		}
	}
}
