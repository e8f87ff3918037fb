package step_test

import (
	"math"
	"math/rand"
	"slices"
	"testing"

	"loam/api"
	"loam/cheney"
	"loam/head"
	"loam/mem"
	"loam/obj"
	"loam/space"
	"loam/step"
)

// sample has objects at 2 (to 5 and 7), 5 (one byte), 7 (to 5), 9 (alone).
func sample(t *testing.T) *space.Space {
	t.Helper()
	m, _ := mem.New(20)
	s, _ := space.New(m, 2, 18)
	for _, h := range []head.Head{{Ptrs: 2}, {Bytes: 1}, {Ptrs: 1}, {Ptrs: 3}} {
		s.Alloc(h)
	}
	for _, p := range [][3]int{{2, 0, 5}, {2, 1, 7}, {7, 0, 5}} {
		if err := obj.SetPtr(s, p[0], p[1], p[2]); err != api.OK {
			t.Fatal(err)
		}
	}
	return s
}

func newCol(t *testing.T, s *space.Space, roots []int, words int) *step.Col {
	t.Helper()
	c, err := step.New(s, roots, words)
	if err != api.OK {
		t.Fatal(err)
	}
	return c
}

func TestEachTime(t *testing.T) { // P2201, W4
	c := newCol(t, sample(t), []int{7, -1, 7, 2}, 10)
	for i, want := range []struct {
		n, scan, free int
		done          bool
	}{
		{0, 0, 0, false}, {-3, 0, 0, false}, {math.MinInt, 0, 0, false},
		{1, 0, 2, false}, {1, 0, 2, false}, {1, 0, 2, false}, {1, 0, 5, false}, // the roots
		{1, 2, 7, false}, {1, 5, 7, false}, {1, 7, 7, true}, // 7, which brings 5; 2; 5
		{1, 7, 7, true}, {0, 7, 7, true}, {math.MaxInt, 7, 7, true},
	} {
		if _, _, err := c.Result(); !c.Done() && err != api.ErrBusy {
			t.Errorf("%d: %v", i, err)
		}
		done, err := c.Step(want.n)
		if err != api.OK || done != want.done || c.Done() != done || c.Scan() != want.scan || c.Free() != want.free {
			t.Errorf("%d: %v, %v, scan %d, free %d", i, done, err, c.Scan(), c.Free())
		}
	}
}

func TestDoneAtOnce(t *testing.T) { // P2201
	c := newCol(t, sample(t), nil, 0)
	if done, err := c.Step(0); !done || err != api.OK || !c.Done() {
		t.Error(done, err)
	}
	if s, went, err := c.Result(); err != api.OK || s.Used() != 0 || len(went) != 0 {
		t.Error(err)
	}
	c = newCol(t, sample(t), []int{-1}, 0)
	if c.Done() {
		t.Error("a root waits")
	}
	if done, err := c.Step(1); !done || err != api.OK {
		t.Error(done, err)
	}
}

func TestErrors(t *testing.T) { // P2201, P6
	bad := sample(t)
	bad.Set(3, 4)
	for i, c := range []struct {
		s     *space.Space
		roots []int
		words int
		want  api.Errno
	}{
		{sample(t), []int{2}, -1, api.ErrArg}, {sample(t), []int{2}, api.MaxWords + 1, api.ErrArg}, {bad, []int{3}, 5, api.ErrForm}, {bad, nil, -1, api.ErrArg},
		{sample(t), []int{3}, 5, api.ErrArg}, {sample(t), []int{-2}, 5, api.ErrArg}, {sample(t), []int{2}, 0, api.OK},
	} {
		x, err := step.New(c.s, c.roots, c.words)
		if err != c.want || err != api.OK && x != nil {
			t.Errorf("%d: %v", i, err)
		}
		if x, err := step.Resume(c.s, c.roots, c.words, nil); c.want != api.OK && (err != c.want || x != nil) {
			t.Errorf("%d: resumed: %v", i, err)
		}
	}
}

func TestFullForEver(t *testing.T) { // P2201
	for words, times := range map[int]int{0: 0, 2: 0, 3: 1, 4: 1, 6: 1, 7: 4} { // how many go well
		c := newCol(t, sample(t), []int{2}, words)
		for i := range 6 {
			done, err := c.Step(1)
			if i < times && err != api.OK || i >= times && words < 7 && (err != api.ErrFull || done) || words == 7 && err != api.OK {
				t.Errorf("%d words, time %d: %v, %v", words, i, done, err)
			}
		}
		s, went, err := c.Result()
		if words < 7 && (err != api.ErrFull || s != nil || went != nil || c.Done()) || words == 7 && err != api.OK {
			t.Errorf("%d words: %v", words, err)
		}
		if _, err := c.Step(0); words < 7 && err != api.ErrFull {
			t.Errorf("%d words: Step(0): %v", words, err)
		}
	}
}

// random makes a space of any objects, and roots in it.
func random(rng *rand.Rand) (*space.Space, []int) {
	m, _ := mem.New(150)
	s, _ := space.New(m, rng.Intn(9), 150)
	for {
		if _, err := s.Alloc(head.Head{Ptrs: rng.Intn(5), Bytes: rng.Intn(20)}); err != api.OK {
			break
		}
	}
	l, _ := s.Objects()
	for _, at := range l {
		h, _ := s.Head(at)
		for i := range h.Ptrs {
			if rng.Intn(2) == 0 {
				obj.SetPtr(s, at, i, l[rng.Intn(len(l))])
			}
		}
	}
	roots := []int{-1}
	for range rng.Intn(5) {
		roots = append(roots, l[rng.Intn(len(l))])
	}
	return s, roots
}

func same(a, b *space.Space) bool {
	return a.Base == b.Base && a.Top == b.Top && a.End == b.End && slices.Equal(a.Words(), b.Words())
}

func TestStepsDoWhatCopyDoes(t *testing.T) { // P2201, T3, P2, P7
	for seed := range int64(150) {
		rng := rand.New(rand.NewSource(seed))
		s, roots := random(rng)
		was, handed := s.Words(), slices.Clone(roots)
		want, places, _ := cheney.Copy(s, roots, 150)
		c := newCol(t, s, roots, 150)
		for i := range roots {
			roots[i] = 77
		}
		for !c.Done() {
			c.Step(rng.Intn(4))
			r, err := step.Resume(s, handed, 150, c.State())
			if err != api.OK || r.Scan() != c.Scan() || r.Free() != c.Free() || r.Done() != c.Done() || string(r.State()) != string(c.State()) {
				t.Fatalf("seed %d: resumed: %v", seed, err)
			}
			if rng.Intn(3) == 0 {
				c = r
			}
		}
		got, went, err := c.Result()
		if err != api.OK || !same(got, want) || !slices.Equal(went, places) || !slices.Equal(s.Words(), was) {
			t.Fatalf("seed %d: %v", seed, err)
		}
		got.Reset()
		went[0] = 77
		if again, went, _ := c.Result(); !same(again, want) || went[0] != -1 {
			t.Errorf("seed %d: a result is shared", seed)
		}
	}
}

func TestColIsApartFromSpace(t *testing.T) { // P2201: what is copied is what was there at New
	s := sample(t)
	want, _, _ := cheney.Copy(s, []int{2}, 10)
	c := newCol(t, s, []int{2}, 10)
	c.Step(1)
	s.Reset()
	if _, err := c.Step(9); err != api.OK {
		t.Fatal(err)
	}
	if got, _, err := c.Result(); err != api.OK || !same(got, want) {
		t.Error(err)
	}
}

func TestWrongStates(t *testing.T) { // P2201, P1
	s, roots := sample(t), []int{2, 7}
	c := newCol(t, s, roots, 10)
	states := map[string]bool{}
	for {
		states[string(c.State())] = true
		if c.Done() {
			break
		}
		c.Step(1)
	}
	try := func(b []byte) {
		t.Helper()
		r, err := step.Resume(s, roots, 10, b)
		if states[string(b)] != (err == api.OK) || err != api.OK && (err != api.ErrForm || r != nil) {
			t.Errorf("%x: %v", b, err)
		}
	}
	try(nil)
	for x := range 256 {
		try([]byte{byte(x)})
		for y := range 256 {
			try([]byte{byte(x), byte(y)})
		}
	}
	try([]byte{0xff, 0xff, 0xff, 0xff, 0xff, 0xff, 0xff, 0xff, 0xff, 1})
	for b := range states {
		try(append([]byte(b), 0))
	}
}
