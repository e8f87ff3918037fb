package sup_test

import (
	"bytes"
	"math"
	"testing"

	"loam/api"
	"loam/crc"
	"loam/geom"
	"loam/sup"
)

func block() sup.Block {
	return sup.Block{Epoch: 0x0102030405060708, Geom: geom.Geom{Sector: 72, Log: 300, Words: 1000}, Space: 1, Words: 999, Log: 0x1112131415161718}
}

func TestEncodeBytes(t *testing.T) { // P601
	s, err := sup.Encode(block())
	want := []byte{'L', 'O', 'A', 'M', 1, 0, 0, 0, 8, 7, 6, 5, 4, 3, 2, 1, 72, 0, 0, 0, 0x2c, 1, 0, 0, 0xe8, 3, 0, 0, 1, 0, 0, 0, 0xe7, 3, 0, 0, 0x18, 0x17, 0x16, 0x15, 0x14, 0x13, 0x12, 0x11}
	want = crc.Seal(append(want, make([]byte, 72-4-len(want))...))
	if err != api.OK || !bytes.Equal(s, want) {
		t.Errorf("%x, %v", s, err)
	}
}

func TestEncodeRefuses(t *testing.T) { // P601, P4
	for i, change := range []func(b *sup.Block){
		func(b *sup.Block) { b.Geom.Sector = 68 }, func(b *sup.Block) { b.Geom.Log = 7 }, func(b *sup.Block) { b.Geom = geom.Geom{} },
		func(b *sup.Block) { b.Space = 2 }, func(b *sup.Block) { b.Space = -1 }, func(b *sup.Block) { b.Words = -1 }, func(b *sup.Block) { b.Words = 1001 },
		func(b *sup.Block) { b.Words = math.MinInt }, func(b *sup.Block) { b.Space = 1 << 32 },
	} {
		b := block()
		change(&b)
		if s, err := sup.Encode(b); s != nil || err != api.ErrArg {
			t.Errorf("%d: %x, %v", i, s, err)
		}
	}
}

func TestDecodeIsBack(t *testing.T) { // P601
	for _, b := range []sup.Block{block(), {Geom: geom.Geom{Sector: 64, Log: 8, Words: 64}}, {Epoch: math.MaxUint64, Geom: geom.Geom{Sector: 1024, Log: 1024, Words: 8192}, Words: 8192, Log: math.MaxUint64}} {
		s, err := sup.Encode(b)
		if err != api.OK || len(s) != b.Geom.Sector {
			t.Fatal(err)
		}
		if x, err := sup.Decode(s); x != b || err != api.OK {
			t.Errorf("%v, %v", x, err)
		}
	}
}

func TestDecodeRefuses(t *testing.T) { // P601, P4
	s, _ := sup.Encode(block())
	refused := func(s []byte) {
		t.Helper()
		if x, err := sup.Decode(s); x != (sup.Block{}) || err != api.ErrForm {
			t.Errorf("%x: %v, %v", s, x, err)
		}
	}
	for i := range s {
		b := bytes.Clone(s)
		b[i] ^= 1
		refused(b)
	}
	for i := range s {
		refused(s[:i])
	}
	refused(append(bytes.Clone(s), 0))
	// With a right sum, but of no block.
	for _, c := range []struct {
		at int
		x  byte
	}{{0, 'l'}, {4, 2}, {5, 1}, {16, 64}, {16, 80}, {21, 0xff}, {27, 0x80}, {28, 2}, {31, 1}, {33, 4}, {35, 0x80}, {44, 1}, {67, 1}} {
		b := bytes.Clone(s[:len(s)-4])
		b[c.at] = c.x
		refused(crc.Seal(b))
	}
	refused(crc.Seal(nil))
	refused(crc.Seal(s))
}

func TestNewerAndSlot(t *testing.T) { // P601, W2
	a, b := sup.Block{Epoch: math.MaxUint64}, sup.Block{Epoch: 3, Words: 7}
	if !sup.Newer(a, b) || sup.Newer(b, a) || sup.Newer(a, a) {
		t.Error("Newer")
	}
	for e, want := range map[uint64]int{0: 0, 1: 1, 2: 0, math.MaxUint64: 1} {
		if sup.Slot(e) != want {
			t.Errorf("Slot(%d)", e)
		}
	}
}
