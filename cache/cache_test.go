package cache_test

import (
	"bytes"
	"math"
	"slices"
	"testing"

	"loam/api"
	"loam/cache"
	"loam/rec"
)

func k(no int) rec.Key { return rec.Key{Space: no % 2, No: no} }

func newCache(t *testing.T, frames int) *cache.Cache {
	t.Helper()
	c, err := cache.New(frames)
	if err != api.OK {
		t.Fatal(err)
	}
	return c
}

// put tells which key went; -1: none.
func put(t *testing.T, c *cache.Cache, no int) int {
	t.Helper()
	o, err := c.Put(k(no), []byte{byte(no)}, false)
	if err != api.OK {
		t.Fatalf("Put(%d): %v", no, err)
	}
	if !o.Was {
		if o.Key != (rec.Key{}) || o.Data != nil || o.Dirty {
			t.Errorf("Put(%d): %v", no, o)
		}
		return -1
	}
	return o.Key.No
}

func TestNew(t *testing.T) { // P1101
	for n, want := range map[int]api.Errno{1: api.OK, 64: api.OK, 0: api.ErrArg, 65: api.ErrArg, -1: api.ErrArg, math.MaxInt: api.ErrArg} {
		if c, err := cache.New(n); err != want || err != api.OK && c != nil {
			t.Errorf("New(%d): %v", n, err)
		}
	}
}

func TestGetAndPut(t *testing.T) { // P1101, W3, P2
	c := newCache(t, 3)
	if b, ok := c.Get(k(1)); ok || b != nil {
		t.Error("in an empty cache")
	}
	b := []byte{1, 2, 3}
	c.Put(k(1), b, false)
	b[0] = 9
	x, ok := c.Get(k(1))
	if !ok || !bytes.Equal(x, []byte{1, 2, 3}) {
		t.Errorf("%v", x)
	}
	x[0] = 9
	if x, _ := c.Get(k(1)); x[0] != 1 {
		t.Error("an answer is the cache's own")
	}
	if o, err := c.Put(k(1), []byte{4}, false); err != api.OK || o.Was || o.Data != nil || c.Len() != 1 {
		t.Errorf("%v, %v", o, err)
	}
	if x, _ := c.Get(k(1)); !bytes.Equal(x, []byte{4}) {
		t.Errorf("%v", x)
	}
}

func TestHandGoesRound(t *testing.T) { // P1101, W3
	c := newCache(t, 3)
	for no := range 3 {
		if went := put(t, c, no); went != -1 {
			t.Errorf("%d went", went)
		}
	}
	// All have a mark: the hand takes them, and then frame 0; it stands at frame 1, and only the new one has a mark.
	if went := put(t, c, 3); went != 0 {
		t.Errorf("%d went", went)
	}
	c.Get(k(1))
	if went := put(t, c, 4); went != 2 { // 1 lost its mark
		t.Errorf("%d went", went)
	}
	if went := put(t, c, 5); went != 1 { // 3, in frame 0, lost its mark
		t.Errorf("%d went", went)
	}
	c.Put(k(3), nil, false) // marks it; the hand stands at frame 2
	if went := put(t, c, 6); went != 4 {
		t.Errorf("%d went", went) // all were marked; behind the round frame 2 is the first
	}
}

func TestOutTellsWhatWent(t *testing.T) { // P1101
	c := newCache(t, 1)
	c.Put(k(7), []byte{5, 6}, true)
	o, err := c.Put(k(8), []byte{1}, false)
	if err != api.OK || o.Key != k(7) || !bytes.Equal(o.Data, []byte{5, 6}) || !o.Dirty || !o.Was {
		t.Errorf("%v, %v", o, err)
	}
	if _, ok := c.Get(k(7)); ok || c.Len() != 1 {
		t.Error("what went is here")
	}
	if o, _ := c.Put(k(9), nil, true); o.Dirty {
		t.Error("what went was clean")
	}
}

func TestPins(t *testing.T) { // P1101, P5
	c := newCache(t, 2)
	put(t, c, 0)
	put(t, c, 1)
	if c.Pin(k(9)) || c.Unpin(k(9)) || c.Unpin(k(0)) {
		t.Error("what is not here, or not pinned")
	}
	if !c.Pin(k(0)) || !c.Pin(k(0)) {
		t.Error("not pinned")
	}
	if went := put(t, c, 2); went != 1 {
		t.Errorf("%d went", went)
	}
	c.Pin(k(2))
	if o, err := c.Put(k(3), nil, true); err != api.ErrFull || o.Was || o.Data != nil {
		t.Errorf("%v, %v", o, err)
	}
	if _, err := c.Put(k(2), []byte{8}, false); err != api.OK {
		t.Error("what is here needs no frame")
	}
	if !c.Unpin(k(0)) || c.Drop(k(0)) || !c.Unpin(k(0)) || c.Unpin(k(0)) {
		t.Error("pinned twice")
	}
	if went := put(t, c, 3); went != 0 {
		t.Errorf("%d went", went)
	}
}

func TestFullChangesNothing(t *testing.T) { // P1101, P5
	c := newCache(t, 2)
	put(t, c, 0)
	put(t, c, 1)
	put(t, c, 2) // 0 went: 2 in frame 0 is marked, 1 is not, the hand is at 1
	c.Pin(k(1))
	c.Pin(k(2))
	c.Put(k(5), nil, false)
	c.Unpin(k(1))
	c.Unpin(k(2))
	if went := put(t, c, 3); went != 1 {
		t.Errorf("%d went", went)
	}
	if went := put(t, c, 4); went != 2 {
		t.Errorf("%d went", went)
	}
}

func TestNewOneIsNotPinned(t *testing.T) { // P1101
	c := newCache(t, 1)
	put(t, c, 0)
	c.Pin(k(0))
	c.Unpin(k(0))
	put(t, c, 1)
	if c.Unpin(k(1)) || !c.Drop(k(1)) || c.Len() != 0 {
		t.Error("a new one is pinned")
	}
}

func TestDirtyAndClean(t *testing.T) { // P1101
	c := newCache(t, 4)
	c.Put(rec.Key{Space: 1, No: 0}, nil, true)
	c.Put(rec.Key{Space: 0, No: 5}, nil, true)
	c.Put(rec.Key{Space: -1, No: 9}, nil, false)
	if d := c.Dirty(); !slices.Equal(d, []rec.Key{{Space: 0, No: 5}, {Space: 1, No: 0}}) {
		t.Errorf("%v", d)
	}
	if l := c.Keys(); !slices.Equal(l, []rec.Key{{Space: -1, No: 9}, {Space: 0, No: 5}, {Space: 1, No: 0}}) || c.Len() != 3 {
		t.Errorf("%v", l)
	}
	c.Put(rec.Key{Space: 1, No: 0}, nil, false) // dirty still
	c.Put(rec.Key{Space: -1, No: 9}, nil, true)
	if len(c.Dirty()) != 3 {
		t.Errorf("%v", c.Dirty())
	}
	if !c.Clean(rec.Key{Space: 1, No: 0}) || !c.Clean(rec.Key{Space: 1, No: 0}) || c.Clean(rec.Key{Space: 1, No: 1}) {
		t.Error("Clean")
	}
	if len(c.Dirty()) != 2 || c.Len() != 3 {
		t.Errorf("%v", c.Dirty())
	}
}

func TestDropEmptiesTheFrame(t *testing.T) { // P1101
	c := newCache(t, 3)
	for no := range 3 {
		put(t, c, no)
	}
	if c.Drop(k(9)) || !c.Drop(k(2)) || !c.Drop(k(1)) || c.Drop(k(1)) {
		t.Error("Drop")
	}
	if l := c.Keys(); !slices.Equal(l, []rec.Key{k(0)}) || len(c.Dirty()) != 0 {
		t.Errorf("%v", l)
	}
	put(t, c, 3) // into frame 1, the first that is empty
	put(t, c, 4)
	if went := put(t, c, 5); went != 0 {
		t.Errorf("%d went", went)
	}
	if went := put(t, c, 6); went != 3 {
		t.Errorf("%d went", went)
	}
}
