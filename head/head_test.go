package head_test

import (
	"math"
	"testing"

	"loam/api"
	"loam/head"
)

func TestPack(t *testing.T) { // P1401, W4
	for _, c := range []struct {
		h head.Head
		w uint64
	}{
		{head.Head{}, 1 << 63}, {head.Head{Ptrs: 1}, 1<<63 | 2}, {head.Head{Ptrs: 64, Bytes: 1024}, 1<<63 | 64<<1 | 1024<<16}, {head.Head{Bytes: 1}, 1<<63 | 1<<16},
		{head.Head{Moved: true}, 1<<63 | 1}, {head.Head{Moved: true, To: api.MaxWords - 1}, 1<<63 | 1 | (api.MaxWords-1)<<32},
	} {
		if w, err := head.Pack(c.h); w != c.w || err != api.OK || !head.Right(c.h) {
			t.Errorf("%v: %x, %v", c.h, w, err)
		}
		if h, err := head.Unpack(c.w); h != c.h || err != api.OK {
			t.Errorf("%x: %v, %v", c.w, h, err)
		}
	}
}

func TestWrongHeads(t *testing.T) { // P1401, P4
	for _, h := range []head.Head{{Ptrs: -1}, {Ptrs: 65}, {Bytes: -1}, {Bytes: 1025}, {To: 1}, {To: -1}, {Ptrs: math.MinInt}, {Bytes: math.MaxInt}, {Moved: true, To: api.MaxWords}, {Moved: true, To: -1}, {Moved: true, Ptrs: 1}, {Moved: true, Bytes: 1}, {Moved: true, To: math.MaxInt}} {
		if w, err := head.Pack(h); w != 0 || err != api.ErrArg || head.Right(h) || head.Size(h) != 0 {
			t.Errorf("%v: %x, %v, %d", h, w, err, head.Size(h))
		}
	}
}

func TestWrongWords(t *testing.T) { // P1401, P4
	const m = 1 << 63
	for _, w := range []uint64{0, 1, m - 1, math.MaxUint64, m | 65<<1, m | 1<<9, m | 1<<15, m | 1025<<16, m | 1<<28, m | 1<<31, m | 1<<32, m | 1<<62, m | 1 | 1<<1, m | 1 | 1<<16, m | 1 | api.MaxWords<<32, m | 1 | 1<<48, m | 1 | 1<<10} {
		if h, err := head.Unpack(w); h != (head.Head{}) || err != api.ErrForm {
			t.Errorf("%x: %v, %v", w, h, err)
		}
	}
}

func TestSize(t *testing.T) { // P1401
	for _, c := range []struct {
		h    head.Head
		want int
	}{{head.Head{}, 1}, {head.Head{Ptrs: 3}, 4}, {head.Head{Bytes: 1}, 2}, {head.Head{Bytes: 8}, 2}, {head.Head{Bytes: 9}, 3}, {head.Head{Ptrs: 64, Bytes: 1024}, 193}, {head.Head{Moved: true}, 0}, {head.Head{Moved: true, To: 7}, 0}} {
		if n := head.Size(c.h); n != c.want {
			t.Errorf("%v: %d", c.h, n)
		}
	}
}
