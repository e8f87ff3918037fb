package heap_test

import (
	"bytes"
	"math"
	"slices"
	"strconv"
	"strings"
	"testing"

	"loam/api"
	"loam/canon"
	"loam/graph"
	"loam/heap"
)

type node = graph.Node

func root(name string, to int) graph.Root { return graph.Root{Name: name, To: to} }

func newHeap(t *testing.T, words int) *heap.Heap {
	t.Helper()
	h, err := heap.New(words)
	if err != api.OK {
		t.Fatal(err)
	}
	return h
}

func alloc(t *testing.T, h *heap.Heap, ptrs, bytes int) int {
	t.Helper()
	x, err := h.Alloc(ptrs, bytes)
	if err != api.OK {
		t.Fatal(err)
	}
	return x
}

// ok fails at the first error.
func ok(t *testing.T, l ...api.Errno) {
	t.Helper()
	for i, err := range l {
		if err != api.OK {
			t.Fatalf("%d: %v", i, err)
		}
	}
}

// is fails if an answer is another one.
func is(t *testing.T, what string, n int, err api.Errno, want int, wantErr api.Errno) {
	t.Helper()
	if n != want || err != wantErr {
		t.Errorf("%s: %d, %v; not %d, %v", what, n, err, want, wantErr)
	}
}

func holds(t *testing.T, h *heap.Heap, want graph.Graph) {
	t.Helper()
	if g := h.Graph(); !graph.Equal(g, want) || h.Used() != graph.Words(want)+5*len(want.Roots) {
		t.Errorf("%v, %d used", g, h.Used())
	}
}

func TestNewAndOf(t *testing.T) { // P2401, P6
	for words, want := range map[int]api.Errno{16: api.OK, api.MaxWords: api.OK, 15: api.ErrArg, api.MaxWords + 1: api.ErrArg, 0: api.ErrArg, math.MinInt: api.ErrArg, math.MaxInt: api.ErrArg} {
		if h, err := heap.New(words); err != want || err != api.OK && h != nil {
			t.Errorf("New(%d): %v", words, err)
		}
	}
	g := graph.Graph{Nodes: []node{{Ptrs: []int{2, 0}, Data: []byte{1}}, {Ptrs: []int{1}}}, Roots: []graph.Root{root("a", 0), root("b", 2)}}
	for words, want := range map[int]api.Errno{16: api.OK, 15: api.ErrArg, api.MaxWords: api.OK} {
		if h, err := heap.Of(words, g); err != want || err != api.OK && h != nil {
			t.Errorf("Of(%d): %v", words, err)
		}
	}
	big := graph.Graph{Nodes: []node{{Data: make([]byte, 48)}}, Roots: []graph.Root{root("a", 0), root("b", 1)}}
	if h, err := heap.Of(16, big); h != nil || err != api.ErrFull {
		t.Error(err)
	}
	big.Roots[1].To = 2
	if h, err := heap.Of(16, big); h != nil || err != api.ErrArg {
		t.Error(err)
	}
	h, _ := heap.Of(16, g)
	g.Nodes[0].Ptrs[0] = 0
	g.Nodes[0].Data[0] = 9
	want := graph.Graph{Nodes: []node{{Ptrs: []int{2, 0}, Data: []byte{1}}, {Ptrs: []int{1}}}, Roots: []graph.Root{root("a", 0), root("b", 2)}}
	holds(t, h, want)
	if len(h.Live()) != 0 {
		t.Error("with handles")
	}
	x, err := h.Lookup("a")
	is(t, "for nothing", x, err, 0, api.OK)
	x, err = h.Lookup("b")
	is(t, "b", x, err, 1, api.OK)
	ok(t, h.Unbind("a"), h.SetPtr(1, 0, 0))
	h.Abort()
	holds(t, h, want)
}

func TestAllocAndPointers(t *testing.T) { // P2401, T1, W5
	h := newHeap(t, 100)
	a, b := alloc(t, h, 2, 0), alloc(t, h, 0, 9)
	if a != 1 || b != 2 {
		t.Errorf("%d, %d", a, b)
	}
	ok(t, h.SetPtr(a, 1, b))
	x, err := h.Ptr(a, 0)
	is(t, "none", x, err, 0, api.OK)
	x, err = h.Ptr(a, 1)
	is(t, "b", x, err, 2, api.OK)
	ok(t, h.Close(b))
	x, err = h.Ptr(a, 1)
	is(t, "b anew", x, err, 3, api.OK)
	x, err = h.Ptr(a, 1)
	is(t, "b again", x, err, 3, api.OK)
	holds(t, h, graph.Graph{Nodes: []node{{Ptrs: []int{0, 2}}, {Data: make([]byte, 9)}}})
	for _, i := range []int{-1, 2, math.MaxInt, math.MinInt} {
		x, err := h.Ptr(a, i)
		is(t, "Ptr", x, err, 0, api.ErrArg)
		if err := h.SetPtr(a, i, a); err != api.ErrArg {
			t.Error(err)
		}
	}
	ok(t, h.SetPtr(a, 1, 0), h.SetPtr(a, 0, a))
	holds(t, h, graph.Graph{Nodes: []node{{Ptrs: []int{1, 0}}, {Data: make([]byte, 9)}}})
	if p, n, err := h.Shape(a); p != 2 || n != 0 || err != api.OK {
		t.Error(p, n, err)
	}
}

func TestHandsAheadOfAllElse(t *testing.T) { // P2401, P6
	h := newHeap(t, 100)
	a := alloc(t, h, 1, 1)
	c := alloc(t, h, 1, 1)
	ok(t, h.Close(c))
	for _, x := range []int{0, -1, c, 3, math.MaxInt, math.MinInt} {
		n, err := h.Ptr(x, 9)
		is(t, "Ptr", n, err, 0, api.ErrHand)
		b, err := h.Read(x, 9, 9)
		is(t, "Read", len(b), err, 0, api.ErrHand)
		p, n, err := h.Shape(x)
		is(t, "Shape", p+n, err, 0, api.ErrHand)
		for i, err := range []api.Errno{h.SetPtr(x, 9, 0), h.Write(x, 9, nil), h.Bind("", x), h.Close(x)} {
			if err != api.ErrHand {
				t.Errorf("%d, call %d: %v", x, i, err)
			}
		}
		if err := h.SetPtr(a, 9, x); x != 0 && err != api.ErrHand {
			t.Errorf("to %d: %v", x, err)
		}
	}
}

func TestAllocRefuses(t *testing.T) { // P2401, P6, P5
	h := newHeap(t, 16)
	for _, c := range []struct {
		ptrs, bytes int
		want        api.Errno
	}{{-1, 0, api.ErrArg}, {65, 0, api.ErrArg}, {0, -1, api.ErrArg}, {0, 1025, api.ErrArg}, {math.MaxInt, 0, api.ErrArg}, {0, math.MinInt, api.ErrArg}, {16, 0, api.ErrFull}, {64, 1024, api.ErrFull}, {0, 121, api.ErrFull}, {14, 1, api.OK}, {0, 0, api.ErrFull}, {65, 0, api.ErrArg}} {
		if x, err := h.Alloc(c.ptrs, c.bytes); err != c.want || err != api.OK && x != 0 {
			t.Errorf("%v: %d, %v", c, x, err)
		}
	}
	if !slices.Equal(h.Live(), []int{1}) || h.Used() != 16 {
		t.Errorf("%v, %d", h.Live(), h.Used())
	}
}

func TestReadAndWrite(t *testing.T) { // P2401, P2
	h := newHeap(t, 100)
	a := alloc(t, h, 0, 5)
	b := []byte{1, 2, 3}
	ok(t, h.Write(a, 1, b), h.Write(a, 5, nil), h.Write(a, 0, nil))
	b[0] = 9
	for _, c := range []struct {
		at, n int
		want  []byte
		err   api.Errno
	}{
		{0, 5, []byte{0, 1, 2, 3, 0}, api.OK}, {2, 1, []byte{2}, api.OK}, {5, 0, nil, api.OK}, {0, 6, nil, api.ErrArg}, {5, 1, nil, api.ErrArg}, {6, 0, nil, api.ErrArg},
		{-1, 1, nil, api.ErrArg}, {0, -1, nil, api.ErrArg}, {math.MaxInt, 1, nil, api.ErrArg}, {1, math.MaxInt, nil, api.ErrArg}, {math.MinInt, 0, nil, api.ErrArg},
	} {
		got, err := h.Read(a, c.at, c.n)
		if err != c.err || !bytes.Equal(got, c.want) {
			t.Errorf("Read(%d, %d): %v, %v", c.at, c.n, got, err)
		}
		if c.err != api.OK && c.n >= 0 && c.n < 9 {
			if err := h.Write(a, c.at, make([]byte, c.n)); err != api.ErrArg {
				t.Errorf("Write(%d, %d): %v", c.at, c.n, err)
			}
		}
	}
	got, _ := h.Read(a, 1, 2)
	_ = append(got, 77)
	got[0] = 77
	if again, _ := h.Read(a, 0, 5); !bytes.Equal(again, []byte{0, 1, 2, 3, 0}) {
		t.Errorf("shared: %v", again)
	}
	ok(t, h.Commit(), h.Write(a, 0, []byte{8}))
	h.Abort()
	if again, _ := h.Read(a, 0, 1); again[0] != 0 {
		t.Error("what was kept was changed")
	}
}

func TestNames(t *testing.T) { // P2401, W5
	h := newHeap(t, 40)
	a, b := alloc(t, h, 0, 0), alloc(t, h, 0, 0)
	ok(t, h.Bind("z", a), h.Bind("b", b), h.Bind("z", b), h.Bind("aa", a))
	if l := h.Names(); !slices.Equal(l, []string{"aa", "b", "z"}) || h.Used() != 17 {
		t.Errorf("%v, %d", l, h.Used())
	}
	ok(t, h.Close(b))
	x, err := h.Lookup("z")
	is(t, "z", x, err, 3, api.OK)
	x, err = h.Lookup("aa")
	is(t, "aa", x, err, 1, api.OK)
	ok(t, h.Unbind("z"))
	for _, s := range []string{"z", "", "nobody", "a\x00", strings.Repeat("x", 33)} {
		x, err := h.Lookup(s)
		is(t, "Lookup", x, err, 0, api.ErrName)
		if err := h.Unbind(s); err != api.ErrName {
			t.Errorf("Unbind(%q): %v", s, err)
		}
	}
	for _, s := range []string{"", "a\x00", strings.Repeat("x", 33)} {
		if err := h.Bind(s, a); err != api.ErrName {
			t.Errorf("Bind(%q): %v", s, err)
		}
	}
	holds(t, h, graph.Graph{Nodes: make([]node, 2), Roots: []graph.Root{root("aa", 1), root("b", 2)}})
}

func TestNamesThatAreTooMany(t *testing.T) { // P2401, P6, P5
	h := newHeap(t, 16)
	a := alloc(t, h, 5, 8)
	ok(t, h.Bind("a", a))
	if err := h.Bind("b", a); err != api.ErrFull {
		t.Error(err)
	}
	if err := h.Bind("", a); err != api.ErrName {
		t.Error(err)
	}
	ok(t, h.Bind("a", a), h.Unbind("a"), h.Bind("b", a))
	if l := h.Names(); !slices.Equal(l, []string{"b"}) || h.Used() != 12 {
		t.Errorf("%v, %d", l, h.Used())
	}
	h = newHeap(t, 16)
	ok(t, h.Bind("just", alloc(t, h, 5, 40)))
	h = newHeap(t, api.MaxWords)
	a = alloc(t, h, 0, 0)
	for i := range api.MaxRoots {
		ok(t, h.Bind("n"+strconv.Itoa(i), a))
	}
	if err := h.Bind("more", a); err != api.ErrFull || h.Used() != 1+5*api.MaxRoots {
		t.Error(err, h.Used())
	}
	ok(t, h.Bind("n3", a))
}

func TestHandlesThatAreTooMany(t *testing.T) { // P2401, P5
	h := newHeap(t, api.MaxWords)
	a := alloc(t, h, 1, 0)
	b := alloc(t, h, 0, 0)
	ok(t, h.SetPtr(a, 0, b), h.Bind("b", b), h.Close(b))
	for len(h.Live()) < api.MaxHands {
		alloc(t, h, 0, 0)
	}
	used := h.Used()
	x, err := h.Alloc(0, 0)
	is(t, "Alloc", x, err, 0, api.ErrFull)
	x, err = h.Ptr(a, 0)
	is(t, "Ptr", x, err, 0, api.ErrFull)
	x, err = h.Lookup("b")
	is(t, "Lookup", x, err, 0, api.ErrFull)
	if h.Used() != used || len(h.Live()) != api.MaxHands {
		t.Error("what was refused changed something")
	}
	ok(t, h.Close(7))
	x, err = h.Lookup("b")
	is(t, "Lookup", x, err, api.MaxHands+2, api.OK)
}

func TestAbort(t *testing.T) { // P2402, T1
	h := newHeap(t, 100)
	a := alloc(t, h, 2, 1)
	b := alloc(t, h, 0, 0)
	ok(t, h.SetPtr(a, 0, b), h.Bind("a", a), h.Write(a, 0, []byte{5}), h.Commit())
	want := h.Graph()
	c := alloc(t, h, 1, 0)
	ok(t, h.SetPtr(a, 1, c), h.SetPtr(a, 0, 0), h.SetPtr(c, 0, b), h.Bind("c", c), h.Unbind("a"), h.Write(a, 0, []byte{6}))
	h.Abort()
	holds(t, h, want)
	if !slices.Equal(h.Live(), []int{a, b}) {
		t.Errorf("%v", h.Live())
	}
	x, err := h.Ptr(a, 0)
	is(t, "b", x, err, b, api.OK)
	if d := alloc(t, h, 0, 0); d != 4 {
		t.Errorf("a handle is there again: %d", d)
	}
	e := newHeap(t, 100)
	alloc(t, e, 1, 1)
	e.Abort()
	holds(t, e, graph.Graph{})
	if len(e.Live()) != 0 {
		t.Errorf("%v", e.Live())
	}
}

func TestCollect(t *testing.T) { // P2403, T3
	h := newHeap(t, 200)
	var l []int
	for i := range 6 {
		l = append(l, alloc(t, h, 2, i))
	}
	// 1 -> 2 -> 3 -> 1; 4 -> 1; 5 by name -> 6.
	ok(t, h.SetPtr(l[0], 0, l[1]), h.SetPtr(l[1], 1, l[2]), h.SetPtr(l[2], 0, l[0]), h.SetPtr(l[3], 0, l[0]), h.SetPtr(l[4], 0, l[5]), h.Bind("n", l[4]))
	if n := h.Collect(); n != 0 {
		t.Errorf("%d words of what has handles", n)
	}
	for _, x := range []int{l[1], l[2], l[3], l[4], l[5]} {
		ok(t, h.Close(x))
	}
	used := h.Used()
	if n := h.Collect(); n != 4 || h.Used() != used-4 || h.Collect() != 0 {
		t.Errorf("%d", n)
	}
	holds(t, h, graph.Graph{
		Nodes: []node{{Ptrs: []int{2, 0}}, {Ptrs: []int{0, 3}, Data: make([]byte, 1)}, {Ptrs: []int{1, 0}, Data: make([]byte, 2)}, {Ptrs: []int{5, 0}, Data: make([]byte, 4)}, {Ptrs: []int{0, 0}, Data: make([]byte, 5)}},
		Roots: []graph.Root{root("n", 4)},
	})
	ok(t, h.Close(l[0]), h.Unbind("n"))
	if n := h.Collect(); n != 3+4+4+4+4 || h.Used() != 0 {
		t.Errorf("%d", n)
	}
	holds(t, h, graph.Graph{})
}

func TestAbortBehindCollect(t *testing.T) { // P2402, P2403
	h := newHeap(t, 50)
	a, b := alloc(t, h, 1, 0), alloc(t, h, 1, 3)
	ok(t, h.SetPtr(a, 0, b), h.Bind("a", a), h.Close(b), h.Commit())
	want := h.Graph()
	ok(t, h.SetPtr(a, 0, 0))
	if n := h.Collect(); n != 3 {
		t.Errorf("%d", n)
	}
	c := alloc(t, h, 0, 0)
	h.Abort()
	holds(t, h, want)
	if !slices.Equal(h.Live(), []int{a}) {
		t.Errorf("%v, %d is of no node", h.Live(), c)
	}
	x, err := h.Ptr(a, 0)
	is(t, "b", x, err, 4, api.OK)
	if d, _ := h.Read(4, 0, 3); len(d) != 3 {
		t.Error("b is not as it was")
	}
}

func TestTwinIsApart(t *testing.T) { // P2401, P7
	h := newHeap(t, 50)
	a := alloc(t, h, 1, 1)
	ok(t, h.Bind("a", a), h.Commit(), h.Write(a, 0, []byte{3}))
	w := h.Twin()
	if !graph.Equal(w.Graph(), h.Graph()) || !slices.Equal(w.Live(), h.Live()) {
		t.Error("not the same")
	}
	ok(t, w.Write(a, 0, []byte{4}), w.SetPtr(a, 0, a), w.Bind("b", a), h.Write(a, 0, []byte{5}))
	if alloc(t, w, 0, 0) != 2 || alloc(t, h, 0, 0) != 2 {
		t.Error("handles")
	}
	w.Commit()
	h.Abort()
	holds(t, h, graph.Graph{Nodes: []node{{Ptrs: []int{0}, Data: []byte{0}}}, Roots: []graph.Root{root("a", 1)}})
	holds(t, w, graph.Graph{Nodes: []node{{Ptrs: []int{1}, Data: []byte{4}}, {}}, Roots: []graph.Root{root("a", 1), root("b", 1)}})
	g := w.Graph()
	g.Nodes[0].Data[0] = 99
	g.Nodes[0].Ptrs[0] = 0
	if canon.Same(g, w.Graph()) {
		t.Error("Graph is the heap's own")
	}
}
