package hand_test

import (
	"math"
	"slices"
	"testing"

	"loam/api"
	"loam/hand"
)

func open(t *testing.T, l *hand.Table, node int) int {
	t.Helper()
	h, err := l.Open(node)
	if err != api.OK {
		t.Fatal(err)
	}
	return h
}

func TestOpenGetClose(t *testing.T) { // P2001, W5
	l := hand.New()
	for want := 1; want < 5; want++ {
		if h := open(t, l, 10*want); h != want {
			t.Errorf("%d", h)
		}
	}
	if n, ok := l.Get(3); n != 30 || !ok {
		t.Error(n, ok)
	}
	if !l.Close(3) || l.Close(3) || !l.Close(4) || l.Close(0) || l.Close(-1) || l.Close(math.MaxInt) {
		t.Error("Close")
	}
	for _, h := range []int{0, -1, 3, 4, 5, math.MinInt} {
		if n, ok := l.Get(h); n != 0 || ok {
			t.Errorf("Get(%d): %d, %v", h, n, ok)
		}
	}
	if h := open(t, l, 30); h != 5 {
		t.Errorf("%d was there ahead", h)
	}
	if !slices.Equal(l.Live(), []int{1, 2, 5}) || !slices.Equal(l.Nodes(), []int{10, 20, 30}) {
		t.Errorf("%v, %v", l.Live(), l.Nodes())
	}
	for _, node := range []int{0, -1, math.MinInt} {
		if h, err := l.Open(node); h != 0 || err != api.ErrArg {
			t.Errorf("Open(%d): %d, %v", node, h, err)
		}
		if h, err := l.For(node); h != 0 || err != api.ErrArg {
			t.Errorf("For(%d): %d, %v", node, h, err)
		}
	}
	if h := open(t, l, 1); h != 6 {
		t.Errorf("what was refused took a handle: %d", h)
	}
}

func TestFor(t *testing.T) { // P2001
	l := hand.New()
	for _, node := range []int{7, 8, 7, 8} {
		open(t, l, node)
	}
	for _, c := range [][2]int{{8, 2}, {7, 1}, {9, 5}, {9, 5}} {
		if h, err := l.For(c[0]); h != c[1] || err != api.OK {
			t.Errorf("For(%d): %d, %v", c[0], h, err)
		}
	}
	l.Close(1)
	if h, _ := l.For(7); h != 3 {
		t.Errorf("%d", h)
	}
}

func TestFull(t *testing.T) { // P2001, P6, P5
	l := hand.New()
	for range api.MaxHands {
		open(t, l, 5)
	}
	if h, err := l.Open(5); h != 0 || err != api.ErrFull {
		t.Error(h, err)
	}
	if h, err := l.For(6); h != 0 || err != api.ErrFull {
		t.Error(h, err)
	}
	if _, err := l.Open(0); err != api.ErrArg {
		t.Error(err)
	}
	if h, err := l.For(5); h != 1 || err != api.OK {
		t.Error(h, err)
	}
	l.Close(9)
	if h := open(t, l, 5); h != api.MaxHands+1 {
		t.Errorf("%d", h)
	}
}

func TestRenumber(t *testing.T) { // P2001, P2
	l := hand.New()
	for _, node := range []int{1, 2, 3, 4, 5, 2, math.MaxInt} {
		open(t, l, node)
	}
	to := []int{4, 1, 0, -2, 9}
	if n := l.Renumber(to); n != 3 {
		t.Errorf("%d closed", n)
	}
	if !slices.Equal(l.Live(), []int{1, 2, 5, 6}) || !slices.Equal(l.Nodes(), []int{4, 1, 9, 1}) || !slices.Equal(to, []int{4, 1, 0, -2, 9}) {
		t.Errorf("%v, %v", l.Live(), l.Nodes())
	}
	if n := l.Renumber(nil); n != 4 || len(l.Live()) != 0 || len(l.Nodes()) != 0 {
		t.Errorf("%d closed", n)
	}
	if h := open(t, l, 1); h != 8 {
		t.Errorf("%d", h)
	}
}

func TestTwinIsApart(t *testing.T) { // P2001, P7
	l := hand.New()
	open(t, l, 1)
	w := l.Twin()
	if h := open(t, w, 2); h != 2 {
		t.Errorf("%d", h)
	}
	w.Close(1)
	if !slices.Equal(l.Live(), []int{1}) || !slices.Equal(w.Live(), []int{2}) || open(t, l, 3) != 2 {
		t.Error("not apart")
	}
}
