package pheap_test

import (
	"bytes"
	"math"
	"math/rand"
	"slices"
	"testing"

	"loam/api"
	"loam/canon"
	"loam/disk"
	"loam/geom"
	"loam/graph"
	"loam/heap"
	"loam/image"
	"loam/pheap"
	"loam/sup"
)

var shape = geom.Geom{Sector: 64, Log: 8, Words: 64}

func newDisk(t *testing.T, g geom.Geom) *disk.Disk {
	t.Helper()
	d, err := disk.New(geom.Sectors(g), g.Sector)
	if err != api.OK {
		t.Fatal(err)
	}
	return d
}

func format(t *testing.T, d *disk.Disk, g geom.Geom) *pheap.Heap {
	t.Helper()
	h, err := pheap.Format(d, g)
	if err != api.OK {
		t.Fatal(err)
	}
	return h
}

func open(t *testing.T, d *disk.Disk) *pheap.Heap {
	t.Helper()
	h, err := pheap.Open(d)
	if err != api.OK {
		t.Fatalf("Open: %v", err)
	}
	return h
}

func told(t *testing.T, h *pheap.Heap) graph.Graph {
	t.Helper()
	g, err := h.Graph()
	if err != api.OK {
		t.Fatal(err)
	}
	return g
}

func alloc(t *testing.T, h *pheap.Heap, ptrs, bytes int) int {
	t.Helper()
	x, err := h.Alloc(ptrs, bytes)
	if err != api.OK {
		t.Fatal(err)
	}
	return x
}

// ok fails at the first error.
func ok(t *testing.T, l ...api.Errno) {
	t.Helper()
	for i, err := range l {
		if err != api.OK {
			t.Fatalf("%d: %v", i, err)
		}
	}
}

func TestFormat(t *testing.T) { // P2501, P6
	for i, c := range []struct {
		sectors, size int
		g             geom.Geom
	}{
		{geom.Sectors(shape), 64, geom.Geom{}}, {geom.Sectors(shape), 64, geom.Geom{Sector: 64, Log: 7, Words: 64}}, {geom.Sectors(shape) + 1, 64, shape},
		{geom.Sectors(shape) - 1, 64, shape}, {geom.Sectors(shape), 72, shape}, {1, 64, shape}, {geom.Sectors(shape), 64, geom.Geom{Sector: math.MinInt, Log: math.MaxInt, Words: -1}},
	} {
		d, _ := disk.New(c.sectors, c.size)
		d.Cut()
		if h, err := pheap.Format(d, c.g); h != nil || err != api.ErrArg || d.Writes() != 0 {
			t.Errorf("%d: %v", i, err)
		}
	}
	d := newDisk(t, shape)
	d.Cut()
	if h, err := pheap.Format(d, shape); h != nil || err != api.ErrDown {
		t.Error(err)
	}
	d.On()
	h := format(t, d, shape)
	if h.Words() != 48 || len(h.Live()) != 0 || !graph.Equal(told(t, h), graph.Graph{}) {
		t.Error("it is not empty")
	}
	if o := open(t, d); o.Words() != 48 || !graph.Equal(told(t, o), graph.Graph{}) {
		t.Error("it is not committed")
	}
	x := alloc(t, h, 40, 0)
	if err := h.Bind("name", x); err != api.OK {
		t.Error(err)
	}
	if y, err := h.Alloc(2, 0); y != 0 || err != api.ErrFull {
		t.Error(err)
	}
}

func TestCommitLasts(t *testing.T) { // P2501, P2503, T1
	d := newDisk(t, shape)
	h := format(t, d, shape)
	a, b, c := alloc(t, h, 2, 3), alloc(t, h, 0, 9), alloc(t, h, 0, 1)
	ok(t, h.SetPtr(a, 1, b), h.Write(b, 0, []byte("123456789")), h.Bind("a", a), h.Commit())
	whole := told(t, h)
	want, _ := graph.Trim(whole)
	ok(t, h.Write(b, 0, []byte("x")), h.Bind("c", c))
	if g := told(t, open(t, d)); !graph.Equal(g, want) {
		t.Errorf("%v", g)
	}
	ok(t, h.Abort())
	if !graph.Equal(told(t, h), whole) || !slices.Equal(h.Live(), []int{a, b, c}) {
		t.Error("not as at the last Commit")
	}
	for i := range 5 {
		ok(t, h.Write(b, i, []byte{byte(i)}), h.Commit())
		o := open(t, d)
		want, _ := graph.Trim(told(t, h))
		if !graph.Equal(told(t, o), want) || len(o.Live()) != 0 {
			t.Errorf("%d: %v", i, told(t, o))
		}
		x, err := o.Lookup("a")
		ok(t, err, o.Write(x, 0, []byte("lost")[:3]))
		ok(t, o.Abort())
		if !graph.Equal(told(t, o), want) || !slices.Equal(o.Live(), []int{1}) {
			t.Errorf("%d: Abort of what was opened", i)
		}
	}
}

// calls answers all calls that ask for power.
func calls(h *pheap.Heap) []func() api.Errno {
	return []func() api.Errno{
		func() api.Errno { _, err := h.Alloc(-1, 0); return err },
		func() api.Errno { _, err := h.Ptr(0, 0); return err },
		func() api.Errno { return h.SetPtr(0, 0, 0) },
		func() api.Errno { _, err := h.Read(0, 0, 0); return err },
		func() api.Errno { return h.Write(0, 0, nil) },
		func() api.Errno { return h.Bind("", 0) },
		func() api.Errno { return h.Unbind("") },
		func() api.Errno { _, err := h.Lookup(""); return err },
		func() api.Errno { _, err := h.Names(); return err },
		func() api.Errno { return h.Close(0) },
		func() api.Errno { return h.Commit() },
		func() api.Errno { return h.Abort() },
		func() api.Errno { _, err := h.Collect(); return err },
		func() api.Errno { _, err := h.Step(0); return err },
		func() api.Errno { _, err := h.Used(); return err },
		func() api.Errno { _, err := h.Graph(); return err },
	}
}

func TestPowerOff(t *testing.T) { // P2501, P4, P6
	for i := range calls(nil) {
		d := newDisk(t, shape)
		h := format(t, d, shape)
		d.Cut()
		if err := calls(h)[i](); err != api.ErrDown {
			t.Errorf("call %d: %v", i, err)
		}
		if whole, _ := h.Step(9); whole {
			t.Error("beside an error Step tells true")
		}
		d.On()
		for k, call := range calls(h) { // one was told ErrDown ahead
			if err := call(); err != api.ErrDown {
				t.Errorf("call %d behind %d: %v", k, i, err)
			}
		}
		if h.Words() != 48 || len(h.Live()) != 0 || h.Bound() > 4 {
			t.Error("what asks no power")
		}
		open(t, d)
	}
	d := newDisk(t, shape)
	h := format(t, d, shape)
	a := alloc(t, h, 0, 0)
	ok(t, h.Bind("a", a))
	d.Arm(1)
	if err := h.Commit(); err != api.ErrDown {
		t.Error(err)
	}
	d.On()
	if names, err := h.Names(); names != nil || err != api.ErrDown {
		t.Error(names, err)
	}
	if g, err := h.Graph(); len(g.Nodes)+len(g.Roots) != 0 || err != api.ErrDown {
		t.Error(err)
	}
}

func TestSteps(t *testing.T) { // P2502, T3
	for seed := range int64(100) {
		rng := rand.New(rand.NewSource(seed))
		g := geom.Geom{Sector: 64, Log: 8, Words: 300}
		h := format(t, newDisk(t, g), g)
		for range rng.Intn(50) {
			x, err := h.Alloc(rng.Intn(3), rng.Intn(20))
			if err == api.OK && rng.Intn(2) == 0 {
				h.Close(x)
			}
		}
		before := told(t, h)
		used, _ := h.Used()
		bound := h.Bound()
		if bound > 4+used/4 || bound < 1 {
			t.Fatalf("seed %d: %d parts of %d words", seed, bound, used)
		}
		if whole, err := h.Step(-rng.Intn(3)); whole || err != api.OK || h.Bound() != bound {
			t.Errorf("seed %d: no part", seed)
		}
		parts := 0
		for {
			n := 1 + rng.Intn(3)
			was := h.Bound()
			whole, err := h.Step(n)
			if err != api.OK || !whole && h.Bound() > was-n {
				t.Fatalf("seed %d: %v, %d parts, not %d less than %d", seed, err, h.Bound(), n, was)
			}
			if whole {
				break
			}
			if !graph.Equal(told(t, h), before) {
				t.Fatalf("seed %d: a part has changed something", seed)
			}
			if parts += n; parts >= bound {
				t.Fatalf("seed %d: more parts than %d", seed, bound)
			}
		}
		after := told(t, h)
		if n, _ := h.Collect(); n != 0 {
			t.Errorf("seed %d: %d words were left", seed, n)
		}
		if !graph.Equal(told(t, h), after) {
			t.Errorf("seed %d: not all was done", seed)
		}
	}
}

func TestStepTakesWhatGoesBetween(t *testing.T) { // P2502
	g := geom.Geom{Sector: 64, Log: 8, Words: 200}
	h := format(t, newDisk(t, g), g)
	a, b := alloc(t, h, 1, 100), alloc(t, h, 1, 0)
	ok(t, h.SetPtr(a, 0, b), h.Bind("a", a), h.Close(b))
	if whole, _ := h.Step(1); whole {
		t.Fatal("of 22 words in one part")
	}
	ok(t, h.SetPtr(a, 0, 0))
	c := alloc(t, h, 0, 0)
	ok(t, h.SetPtr(a, 0, c), h.Close(c))
	if whole, err := h.Step(math.MaxInt); !whole || err != api.OK {
		t.Error(whole, err)
	}
	if want := (graph.Graph{Nodes: []graph.Node{{Ptrs: []int{2}, Data: make([]byte, 100)}, {}}, Roots: []graph.Root{{Name: "a", To: 1}}}); !graph.Equal(told(t, h), want) {
		t.Errorf("%v", told(t, h))
	}
}

func TestWhatEndsACollection(t *testing.T) { // P2502
	g := geom.Geom{Sector: 64, Log: 8, Words: 200}
	for i, end := range []func(h *pheap.Heap) api.Errno{(*pheap.Heap).Commit, (*pheap.Heap).Abort, func(h *pheap.Heap) api.Errno { _, err := h.Collect(); return err }} {
		h := format(t, newDisk(t, g), g)
		a := alloc(t, h, 0, 100)
		ok(t, h.Bind("a", a), h.Commit())
		whole := h.Bound()
		h.Step(2)
		if h.Bound() >= whole {
			t.Errorf("%d: %d", i, h.Bound())
		}
		ok(t, end(h))
		if h.Bound() != whole {
			t.Errorf("%d: %d parts, not %d", i, h.Bound(), whole)
		}
	}
}

func TestOpenRefuses(t *testing.T) { // P2503, P2504, P6
	for _, c := range [][2]int{{1, 64}, {2, 64}, {40, 65}, {16384, 64}, {30, 1024}} {
		d, _ := disk.New(c[0], c[1])
		if h, err := pheap.Open(d); h != nil || err != api.ErrForm || d.Writes() != 0 {
			t.Errorf("%v: %v", c, err)
		}
		d.Cut()
		if h, err := pheap.Open(d); h != nil || err != api.ErrDown {
			t.Errorf("%v: %v", c, err)
		}
	}
	d := newDisk(t, shape)
	h := format(t, d, shape)
	ok(t, h.Bind("a", alloc(t, h, 0, 0)), h.Commit())
	wide, _ := disk.Of(append(d.Bytes(), make([]byte, 64)...), 64)
	if _, err := pheap.Open(wide); err != api.ErrForm {
		t.Errorf("on a disk of more sectors: %v", err)
	}
}

func TestOpenOnlyReads(t *testing.T) { // P2503: so it stays, however often Open is cut
	d := newDisk(t, shape)
	h := format(t, d, shape)
	ok(t, h.Bind("a", alloc(t, h, 0, 0)), h.Commit(), h.Bind("b", 1))
	d.Arm(2, true)
	h.Commit()
	d.On()
	was := told(t, open(t, d))
	for n := range 5 {
		d.Arm(n, true, true)
		o, err := pheap.Open(d)
		if err == api.OK && !graph.Equal(told(t, o), was) {
			t.Errorf("%d: %v", n, told(t, o))
		}
		d.On()
	}
}

// keeps tells each way in which n pending writes may be kept.
func keeps(n int) [][]bool {
	var out [][]bool
	for bitset := range 1 << n {
		l := make([]bool, n)
		for i := range l {
			l[i] = bitset>>i&1 == 1
		}
		out = append(out, l)
	}
	return out
}

func TestEachCutOfACommit(t *testing.T) { // P2503, T2
	for epochs := range 2 {
		for arm := 1; arm < 12; arm++ {
			for _, keep := range keeps(min(arm-1, 5)) {
				d := newDisk(t, shape)
				h := format(t, d, shape)
				a := alloc(t, h, 1, 150)
				ok(t, h.Bind("a", a), h.Write(a, 0, bytes.Repeat([]byte{1}, 150)), h.Commit())
				for range epochs {
					ok(t, h.Commit())
				}
				was := told(t, h)
				ok(t, h.Write(a, 0, bytes.Repeat([]byte{2}, 150)), h.SetPtr(a, 0, a), h.Bind("b", a))
				now := told(t, h)
				d.Arm(arm, keep...)
				err := h.Commit()
				d.On()
				g := told(t, open(t, d))
				if !graph.Equal(g, now) && (err == api.OK || !graph.Equal(g, was)) {
					t.Errorf("cut at %d, %v: %v, %v", arm, keep, err, g)
				}
			}
		}
	}
}

func TestEachCutOfAFormat(t *testing.T) { // P2503, T2
	other := geom.Geom{Sector: 64, Log: 18, Words: 64}
	for commits := range 4 {
		for arm := 1; arm < 6; arm++ {
			for _, keep := range keeps(min(arm-1, 4)) {
				for _, g := range []geom.Geom{other, {Sector: 64, Log: 8, Words: 96}} {
					d := newDisk(t, other)
					h := format(t, d, other)
					for range commits {
						ok(t, h.Bind(string(rune('a'+len(h.Live()))), alloc(t, h, 0, 3)), h.Commit())
					}
					was := told(t, h)
					d.Arm(arm, keep...)
					_, err := pheap.Format(d, g)
					d.On()
					if err == api.ErrArg {
						t.Fatal("not of one shape")
					}
					o, oerr := pheap.Open(d)
					if oerr == api.ErrForm && err != api.OK {
						continue
					}
					if oerr != api.OK {
						t.Fatalf("%v, %v", err, oerr)
					}
					if now := told(t, o); !graph.Equal(now, graph.Graph{}) && (err == api.OK || !graph.Equal(now, was)) {
						t.Errorf("cut at %d, %v: %v, %v", arm, keep, err, now)
					}
				}
			}
		}
	}
}

// pair is a heap that lasts, and one in memory to which the same is done.
type pair struct {
	p *pheap.Heap
	m *heap.Heap
}

// do does any call to both, and tells whether all was told alike.
func (x pair) do(rng *rand.Rand) bool {
	h := 1 + rng.Intn(12)
	name := string(rune('a' + rng.Intn(8)))
	switch rng.Intn(10) {
	case 0, 1:
		ptrs, bytes := rng.Intn(4)-rng.Intn(2), rng.Intn(30)
		a, err := x.p.Alloc(ptrs, bytes)
		b, merr := x.m.Alloc(ptrs, bytes)
		return a == b && err == merr
	case 2:
		i := rng.Intn(4)
		a, err := x.p.Ptr(h, i)
		b, merr := x.m.Ptr(h, i)
		return a == b && err == merr
	case 3, 4:
		i, to := rng.Intn(4), rng.Intn(12)
		return x.p.SetPtr(h, i, to) == x.m.SetPtr(h, i, to)
	case 5:
		at, n := rng.Intn(20), rng.Intn(10)
		b := make([]byte, n)
		rng.Read(b)
		if x.p.Write(h, at, b) != x.m.Write(h, at, b) {
			return false
		}
		a, err := x.p.Read(h, at, n)
		c, merr := x.m.Read(h, at, n)
		return bytes.Equal(a, c) && err == merr
	case 6:
		return x.p.Bind(name, h) == x.m.Bind(name, h)
	case 7:
		if rng.Intn(2) == 0 {
			return x.p.Unbind(name) == x.m.Unbind(name)
		}
		a, err := x.p.Lookup(name)
		b, merr := x.m.Lookup(name)
		return a == b && err == merr
	case 8:
		return x.p.Close(h) == x.m.Close(h)
	}
	switch rng.Intn(6) {
	case 0:
		x.m.Abort()
		return x.p.Abort() == api.OK
	case 1:
		n, err := x.p.Collect()
		return n == x.m.Collect() && err == api.OK
	case 2, 3:
		whole, err := x.p.Step(rng.Intn(5))
		if whole {
			x.m.Collect()
		}
		return err == api.OK
	}
	names, err := x.p.Names()
	return slices.Equal(names, x.m.Names()) && err == api.OK
}

func (x pair) same(t *testing.T) bool {
	t.Helper()
	used, err := x.p.Used()
	return graph.Equal(told(t, x.p), x.m.Graph()) && used == x.m.Used() && err == api.OK && slices.Equal(x.p.Live(), x.m.Live())
}

func TestDaysWithCuts(t *testing.T) { // T1, T2, T3, P2501 to P2503
	for seed := range int64(300) {
		rng := rand.New(rand.NewSource(seed))
		g := geom.Geom{Sector: []int{64, 72, 512}[rng.Intn(3)], Log: 8, Words: 64 + rng.Intn(100)}
		d := newDisk(t, g)
		x := pair{p: format(t, d, g)}
		x.m, _ = heap.New(x.p.Words())
		kept := graph.Graph{}
		for i := range 200 {
			if !x.do(rng) || !x.same(t) {
				t.Fatalf("seed %d, call %d: not alike", seed, i)
			}
			if rng.Intn(6) > 0 {
				continue
			}
			if rng.Intn(2) == 0 {
				var keep []bool
				for range rng.Intn(20) {
					keep = append(keep, rng.Intn(2) == 0)
				}
				d.Arm(1+rng.Intn(25), keep...)
			}
			now := x.m.Graph()
			if err := x.p.Commit(); err == api.OK {
				x.m.Commit()
				kept = now
				d.Arm(math.MaxInt)
				continue
			}
			d.On()
			x.p = open(t, d)
			got := told(t, x.p)
			for _, may := range []graph.Graph{kept, now} {
				if may, _ := graph.Trim(may); graph.Equal(may, got) {
					x.m, _ = heap.Of(x.p.Words(), may)
				}
			}
			if !x.same(t) {
				t.Fatalf("seed %d, call %d: %v, neither %v nor %v", seed, i, got, kept, now)
			}
			kept = got
		}
	}
}

// works fails if a heap that was found is not one of which all holds.
func works(t *testing.T, d *disk.Disk, h *pheap.Heap) {
	t.Helper()
	g := told(t, h)
	if graph.Check(g) != api.OK || len(h.Live()) != 0 {
		t.Fatalf("%v", g)
	}
	if trimmed, _ := graph.Trim(g); !graph.Equal(trimmed, g) {
		t.Fatalf("not trimmed: %v", g)
	}
	m, err := heap.Of(h.Words(), g)
	if err != api.OK {
		t.Fatal(err)
	}
	x := pair{h, m}
	rng := rand.New(rand.NewSource(1))
	for range 3 {
		was := m.Graph()
		for range 30 {
			if !x.do(rng) || !x.same(t) {
				t.Fatal("not alike")
			}
		}
		if canon.Same(was, m.Graph()) { // else the Commit ahead would do for this one
			if names := m.Names(); len(names) > 0 {
				ok(t, h.Unbind(names[0]), m.Unbind(names[0]))
			} else {
				for _, open := range h.Live() { // so that there is room
					ok(t, h.Close(open), m.Close(open))
				}
				_, cerr := h.Collect()
				ok(t, cerr)
				m.Collect()
				a, err := h.Alloc(0, 0)
				b, merr := m.Alloc(0, 0)
				ok(t, err, merr, h.Bind("new", a), m.Bind("new", b))
			}
		}
		ok(t, h.Commit(), m.Commit())
		if !canon.Same(told(t, open(t, d)), m.Graph()) {
			t.Fatal("what was committed does not last")
		}
	}
}

// block lets a superblock stand in a sector, and an image in its space.
func block(t *testing.T, d *disk.Disk, sector int, b sup.Block, l []uint64) {
	t.Helper()
	s, err := sup.Encode(b)
	if err != api.OK || d.Write(sector, s) != api.OK {
		t.Fatal(err)
	}
	for i, w := range l {
		sector, at := geom.Word(b.Geom, b.Space, i)
		s, _ := d.Read(sector)
		for k := range 8 {
			s[at+k] = byte(w >> (8 * k))
		}
		d.Write(sector, s)
	}
	d.Sync()
}

func TestDisksOfAnyBlocks(t *testing.T) { // P2504, T4
	g := graph.Graph{Nodes: []graph.Node{{Ptrs: []int{3, 0}}, {Ptrs: []int{1}}, {Data: []byte{7}}}, Roots: []graph.Root{{Name: "a", To: 1}, {Name: "b", To: 0}}}
	l, err := image.Encode(g)
	if err != api.OK {
		t.Fatal(err)
	}
	for _, epoch := range []uint64{0, 1, 7, math.MaxUint64 - 2, math.MaxUint64 - 1, math.MaxUint64} {
		for _, old := range []uint64{0, 5, 6, math.MaxUint64} {
			for space := range 2 {
				for words := range len(l) + 2 {
					d := newDisk(t, shape)
					block(t, d, sup.Slot(old), sup.Block{Epoch: old, Geom: shape, Space: 1 - space}, nil)
					block(t, d, sup.Slot(epoch), sup.Block{Epoch: epoch, Geom: shape, Space: space, Words: words, Log: 9}, l)
					h, err := pheap.Open(d)
					if err == api.OK {
						if words == len(l) && (old <= epoch || sup.Slot(old) == sup.Slot(epoch)) && len(told(t, h).Nodes) != 2 {
							t.Errorf("%d, %d: %v", epoch, old, told(t, h))
						}
						works(t, d, h)
					} else if err != api.ErrForm || h != nil {
						t.Error(err)
					}
					h = format(t, d, shape)
					works(t, d, h)
				}
			}
		}
	}
}

func TestFullImages(t *testing.T) { // P2504: a heap that would be above its words is none
	for words, want := range map[int]api.Errno{48: api.OK, 49: api.ErrForm, 62: api.ErrForm} {
		g := graph.Graph{Nodes: []graph.Node{{Ptrs: make([]int, words-6)}}, Roots: []graph.Root{{Name: "a", To: 1}}}
		l, err := image.Encode(g)
		if err != api.OK {
			t.Fatal(err)
		}
		d := newDisk(t, shape)
		block(t, d, 0, sup.Block{Geom: shape, Words: len(l)}, l)
		if _, err := pheap.Open(d); err != want {
			t.Errorf("%d words: %v", words, err)
		}
	}
}

func TestDisksOfAnyBytes(t *testing.T) { // P2504, T4
	for seed := range int64(1500) {
		rng := rand.New(rand.NewSource(seed))
		d := newDisk(t, shape)
		h := format(t, d, shape)
		for range rng.Intn(4) {
			for range rng.Intn(3) {
				if x, err := h.Alloc(rng.Intn(3), rng.Intn(9)); err == api.OK {
					h.SetPtr(x, 0, 1)
					h.Bind(string(rune('a'+x)), x)
				}
			}
			ok(t, h.Commit())
		}
		b := d.Bytes()
		for range 1 + rng.Intn(3) {
			b[rng.Intn(len(b))] = byte(rng.Intn(256))
			if p := geom.Space(shape, rng.Intn(2)); rng.Intn(2) == 0 {
				b[p.At*64+rng.Intn(200)] ^= 1 << rng.Intn(8)
			}
		}
		x, _ := disk.Of(b, 64)
		was := x.Bytes()
		o, err := pheap.Open(x)
		if err == api.OK {
			works(t, x, o)
		} else if err != api.ErrForm || o != nil || !bytes.Equal(x.Bytes(), was) || x.Writes() != 0 {
			t.Fatalf("seed %d: %v", seed, err)
		}
	}
}
