package script_test

import (
	"bytes"
	"math"
	"math/rand"
	"slices"
	"testing"

	"loam/api"
	"loam/disk"
	"loam/geom"
	"loam/heap"
	"loam/pheap"
	"loam/script"
)

type (
	op     = script.Op
	answer = script.Answer
)

var shape = geom.Geom{Sector: 64, Log: 8, Words: 96}

func same(a, b answer) bool { return a.Err == b.Err && a.N == b.N && bytes.Equal(a.Data, b.Data) }

func holds(t *testing.T, got, want []answer) {
	t.Helper()
	if !slices.EqualFunc(got, want, same) {
		t.Errorf("%v, not %v", got, want)
	}
}

// each is a day on which each kind of op is done, well and wrongly.
func each() ([]op, []answer) {
	var l []op
	var want []answer
	for _, x := range []struct {
		o op
		a answer
	}{
		{op{Kind: script.Alloc, X: 2, I: 5}, answer{N: 1}},
		{op{Kind: script.Alloc, X: 0, I: 1}, answer{N: 2}},
		{op{Kind: script.Alloc, X: 65}, answer{Err: api.ErrArg}},
		{op{Kind: script.Alloc, X: 64, I: 1024}, answer{Err: api.ErrFull}},
		{op{Kind: script.SetPtr, X: 1, I: 1, To: 2}, answer{}},
		{op{Kind: script.SetPtr, X: 1, I: 2, To: 2}, answer{Err: api.ErrArg}},
		{op{Kind: script.SetPtr, X: 1, I: 1, To: 9}, answer{Err: api.ErrHand}},
		{op{Kind: script.Ptr, X: 1, I: 1}, answer{N: 2}},
		{op{Kind: script.Ptr, X: 1, I: 0}, answer{}},
		{op{Kind: script.Ptr, X: 3}, answer{Err: api.ErrHand}},
		{op{Kind: script.Write, X: 1, I: 1, Data: []byte{7, 8}}, answer{}},
		{op{Kind: script.Write, X: 1, I: 4, Data: []byte{7, 8}}, answer{Err: api.ErrArg}},
		{op{Kind: script.Read, X: 1, I: 0, To: 4}, answer{Data: []byte{0, 7, 8, 0}}},
		{op{Kind: script.Read, X: 1, I: 4, To: 2}, answer{Err: api.ErrArg}},
		{op{Kind: script.Bind, Name: "a", X: 1}, answer{}},
		{op{Kind: script.Bind, Name: "", X: 1}, answer{Err: api.ErrName}},
		{op{Kind: script.Lookup, Name: "a"}, answer{N: 1}},
		{op{Kind: script.Lookup, Name: "b"}, answer{Err: api.ErrName}},
		{op{Kind: script.Commit}, answer{}},
		{op{Kind: script.Close, X: 2}, answer{}},
		{op{Kind: script.Close, X: 2}, answer{Err: api.ErrHand}},
		{op{Kind: script.SetPtr, X: 1, I: 1}, answer{}},
		{op{Kind: script.Unbind, Name: "a"}, answer{}},
		{op{Kind: script.Unbind, Name: "a"}, answer{Err: api.ErrName}},
		{op{Kind: script.Collect}, answer{}},
		{op{Kind: script.Abort}, answer{}},
		{op{Kind: script.Ptr, X: 1, I: 1}, answer{N: 3}},
		{op{Kind: script.Lookup, Name: "a"}, answer{N: 1}},
		{op{Kind: 0}, answer{Err: api.ErrArg}},
		{op{Kind: 14, X: 1}, answer{Err: api.ErrArg}},
		{op{Kind: math.MinInt}, answer{Err: api.ErrArg}},
		{op{Kind: script.Step, I: 0}, answer{}},
	} {
		l, want = append(l, x.o), append(want, x.a)
	}
	return l, want
}

func TestRunAndModel(t *testing.T) { // P2701, T1
	l, want := each()
	d, _ := disk.New(geom.Sectors(shape), 64)
	p, err := pheap.Format(d, shape)
	if err != api.OK {
		t.Fatal(err)
	}
	holds(t, script.Run(p, l...), want)
	m, _ := heap.New(p.Words())
	holds(t, script.Model(m, l...), want)
	got, err := script.Day(shape, l...)
	if err != api.OK {
		t.Fatal(err)
	}
	holds(t, got, want)
	if len(script.Run(p)) != 0 || len(script.Model(m)) != 0 {
		t.Error("of no ops")
	}
}

func TestStepAndCollect(t *testing.T) { // P2701
	// What is left at the end has all of the words that there are, so what was ahead of it must have gone.
	l := []op{{Kind: script.Alloc, I: 20}, {Kind: script.Close, X: 1}, {Kind: script.Step, I: 1000}, {Kind: script.Alloc, I: 20}, {Kind: script.Close, X: 2}, {Kind: script.Collect}, {Kind: script.Alloc, I: 79 * 8}}
	got, err := script.Day(shape, l...)
	if err != api.OK {
		t.Fatal(err)
	}
	holds(t, got, []answer{{N: 1}, {}, {N: 1}, {N: 2}, {}, {}, {N: 3}})
	m, _ := heap.New(80)
	holds(t, script.Model(m, append(l[:2:2], l[5:]...)...), []answer{{N: 1}, {}, {}, {N: 2}})
	m, _ = heap.New(80)
	holds(t, script.Model(m, l[:3]...), []answer{{N: 1}, {}, {}})
	if m.Used() != 4 {
		t.Error("Step does something to a heap in memory")
	}
}

func TestDayRefuses(t *testing.T) { // P2701, P4
	if l, err := script.Day(geom.Geom{Sector: 64, Log: 7, Words: 64}, op{Kind: script.Commit}); l != nil || err != api.ErrArg {
		t.Error(l, err)
	}
	if l, err := script.Day(shape); len(l) != 0 || err != api.OK {
		t.Error(l, err)
	}
}

func TestRunEndsWithThePower(t *testing.T) { // P2701
	d, _ := disk.New(geom.Sectors(shape), 64)
	p, _ := pheap.Format(d, shape)
	d.Arm(1)
	l := []op{{Kind: 99}, {Kind: script.Alloc, X: 1}, {Kind: script.Commit}, {Kind: 99}, {Kind: script.Alloc, X: 1}}
	holds(t, script.Run(p, l...), []answer{{Err: api.ErrArg}, {N: 1}, {Err: api.ErrDown}})
	holds(t, script.Run(p, l...), []answer{{Err: api.ErrArg}, {Err: api.ErrDown}})
}

func TestText(t *testing.T) { // P2701
	got := script.Text(answer{N: 7}, answer{Err: api.ErrHand}, answer{Data: []byte{0, 0xab, 16}}, answer{Err: api.ErrDown, N: -3, Data: []byte{}}, answer{Err: 77})
	if want := "ok 7\nhand 0\nok 0 x00ab10\ndown -3\nerror 0\n"; got != want {
		t.Errorf("%q", got)
	}
	if script.Text() != "" {
		t.Error("of nothing")
	}
}

func TestNothingIsShared(t *testing.T) { // P2
	b := []byte{1, 2}
	m, _ := heap.New(80)
	got := script.Model(m, op{Kind: script.Alloc, I: 2}, op{Kind: script.Write, X: 1, Data: b}, op{Kind: script.Read, X: 1, To: 2}, op{Kind: script.Read, X: 1, To: 2})
	b[0] = 9
	got[2].Data[0] = 9
	_ = append(got[2].Data, 9)
	if x, _ := m.Read(1, 0, 2); !bytes.Equal(x, []byte{1, 2}) || got[3].Data[0] != 1 {
		t.Error("shared")
	}
}

func TestDaysAreAlike(t *testing.T) { // P2701, T1
	for seed := range int64(100) {
		rng := rand.New(rand.NewSource(seed))
		var l []op
		for range 150 {
			o := op{Kind: 1 + rng.Intn(12), X: rng.Intn(9), I: rng.Intn(4), To: rng.Intn(9), Name: string(rune('a' + rng.Intn(4))), Data: make([]byte, rng.Intn(4))}
			rng.Read(o.Data)
			l = append(l, o)
		}
		got, err := script.Day(shape, l...)
		m, _ := heap.New(80)
		if err != api.OK || script.Text(got...) != script.Text(script.Model(m, l...)...) {
			t.Fatalf("seed %d: not alike", seed)
		}
	}
}
