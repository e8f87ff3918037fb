package ring_test

import (
	"bytes"
	"math"
	"math/rand"
	"slices"
	"testing"

	"loam/api"
	"loam/disk"
	"loam/ring"
)

func newDisk(t *testing.T, sectors, size int) *disk.Disk {
	t.Helper()
	d, err := disk.New(sectors, size)
	if err != api.OK {
		t.Fatal(err)
	}
	return d
}

func format(t *testing.T, d *disk.Disk, at, n int) *ring.Ring {
	t.Helper()
	r, err := ring.Format(d, at, n)
	if err != api.OK {
		t.Fatal(err)
	}
	return r
}

// state is what a log tells.
type state struct {
	first uint64
	l     [][]byte
}

func told(r *ring.Ring) state {
	first, l := r.Records()
	return state{first, l}
}

func (s state) same(x state) bool {
	return s.first == x.first && slices.EqualFunc(s.l, x.l, bytes.Equal)
}

func (s state) appended(b []byte) state {
	return state{s.first, append(slices.Clone(s.l), bytes.Clone(b))}
}

func (s state) truncated(up uint64) state {
	for len(s.l) > 0 && s.first <= up {
		s = state{s.first + 1, s.l[1:]}
	}
	return s
}

func reopen(t *testing.T, d *disk.Disk, at, n int) *ring.Ring {
	t.Helper()
	r, err := ring.Open(d, at, n)
	if err != api.OK {
		t.Fatalf("Open: %v", err)
	}
	return r
}

func TestArguments(t *testing.T) { // P901, P6
	d := newDisk(t, 20, 64)
	for _, c := range [][2]int{{0, 7}, {0, 21}, {-1, 10}, {13, 8}, {20, 8}, {0, -1}, {math.MaxInt, math.MaxInt}, {math.MinInt, 8}, {1, math.MaxInt}} {
		if r, err := ring.Format(d, c[0], c[1]); r != nil || err != api.ErrArg {
			t.Errorf("Format(%v): %v", c, err)
		}
		if r, err := ring.Open(d, c[0], c[1]); r != nil || err != api.ErrArg {
			t.Errorf("Open(%v): %v", c, err)
		}
	}
	if r, err := ring.Open(d, 0, 8); r != nil || err != api.ErrForm {
		t.Errorf("Open of nothing: %v", err)
	}
	if d.Writes() != 0 {
		t.Error("what was refused was written")
	}
	d.Cut()
	if r, err := ring.Format(d, 0, 8); r != nil || err != api.ErrDown {
		t.Errorf("Format without power: %v", err)
	}
	if r, err := ring.Open(d, 0, 8); r != nil || err != api.ErrDown {
		t.Errorf("Open without power: %v", err)
	}
	if _, err := ring.Format(d, 0, 7); err != api.ErrArg {
		t.Error(err)
	}
}

func TestAppendAndTruncate(t *testing.T) { // P901
	d := newDisk(t, 20, 64)
	r := format(t, d, 3, 12)
	if s := told(r); s.first != 1 || len(s.l) != 0 || r.Next() != 1 {
		t.Errorf("in the beginning: %v", s)
	}
	want := state{first: 1}
	for i, n := range []int{0, 1, 60, 61, 64, 100} {
		b := bytes.Repeat([]byte{byte(i + 1)}, n)
		want = want.appended(b)
		if no, err := r.Append(b); err != api.OK || no != uint64(i+1) || r.Next() != no+1 {
			t.Fatalf("%d: %d, %v", i, no, err)
		}
		if n > 0 {
			b[0] = 99
		}
		if !told(r).same(want) || !told(reopen(t, d, 3, 12)).same(want) {
			t.Fatalf("%d: %v", i, told(r))
		}
	}
	if err := r.Truncate(7); err != api.ErrArg {
		t.Error(err)
	}
	if err := r.Truncate(math.MaxUint64); err != api.ErrArg {
		t.Error(err)
	}
	for _, up := range []uint64{0, 2, 1, 3, 6} {
		want = want.truncated(up)
		if err := r.Truncate(up); err != api.OK || !told(r).same(want) || !told(reopen(t, d, 3, 12)).same(want) {
			t.Fatalf("Truncate(%d): %v, %v", up, err, told(r))
		}
	}
	if s := told(r); s.first != 7 || r.Next() != 7 || r.Truncate(7) != api.ErrArg || r.Truncate(6) != api.OK {
		t.Errorf("all are truncated: %v", s)
	}
	if no, err := r.Append([]byte{5}); no != 7 || err != api.OK {
		t.Errorf("%d, %v", no, err)
	}
}

func TestNoOtherSectorIsTouched(t *testing.T) { // P901
	for _, size := range []int{64, 65, 512} {
		b := bytes.Repeat([]byte{0xa5}, 20*size)
		d, _ := disk.Of(b, size)
		r := format(t, d, 5, 9)
		for i := range 40 {
			if _, err := r.Append(make([]byte, i)); err == api.ErrFull {
				r.Truncate(r.Next() - 1)
			}
		}
		got := d.Bytes()
		if !bytes.Equal(got[:5*size], b[:5*size]) || !bytes.Equal(got[14*size:], b[14*size:]) {
			t.Errorf("size %d: touched", size)
		}
	}
}

func TestRoom(t *testing.T) { // P901
	for _, size := range []int{64, 65, 100, 1024} {
		for _, n := range []int{8, 9, 13, 200} {
			d := newDisk(t, n, size)
			r := format(t, d, 0, n)
			per := size - 32
			if least := min((n-4)*per, api.MaxData); r.Room() < least || r.Room() > api.MaxData {
				t.Errorf("%d of %d: room %d, not %d", n, size, r.Room(), least)
			}
			left := n - 4
			rng := rand.New(rand.NewSource(int64(n)))
			for r.Room() >= 0 {
				b := make([]byte, rng.Intn(min(r.Room(), 3*size)+1))
				if no, err := r.Append(b); err != api.OK {
					t.Fatalf("%d, %v", no, err)
				}
				left -= (len(b)+per-1)/per + 1
				if least := min(left*per, api.MaxData); left > 0 && r.Room() < least {
					t.Errorf("%d of %d: room %d, not %d", n, size, r.Room(), least)
				}
			}
			before := told(r)
			if no, err := r.Append(nil); no != 0 || err != api.ErrFull || !told(r).same(before) {
				t.Errorf("%d of %d: %d, %v", n, size, no, err)
			}
			if r.Truncate(r.Next()-1) != api.OK || r.Room() < min((n-4)*per, api.MaxData) {
				t.Errorf("%d of %d: room %d, of truncated ones too", n, size, r.Room())
			}
		}
	}
}

func TestAppendRefuses(t *testing.T) { // P901, P6, P5
	d := newDisk(t, 100, 1024)
	r := format(t, d, 0, 100)
	if no, err := r.Append(make([]byte, api.MaxData+1)); no != 0 || err != api.ErrLong {
		t.Errorf("%d, %v", no, err)
	}
	if no, err := r.Append(make([]byte, api.MaxData)); no != 1 || err != api.OK {
		t.Errorf("%d, %v", no, err)
	}
	if s := told(reopen(t, d, 0, 100)); len(s.l) != 1 || len(s.l[0]) != api.MaxData {
		t.Errorf("%d records", len(s.l))
	}
	small := format(t, newDisk(t, 8, 64), 0, 8)
	if _, err := small.Append(make([]byte, small.Room()+1)); err != api.ErrFull {
		t.Error(err)
	}
	if _, err := small.Append(make([]byte, small.Room())); err != api.OK || small.Room() != -1 {
		t.Error(err)
	}
	d.Cut()
	if _, err := r.Append(make([]byte, api.MaxData+1)); err != api.ErrLong {
		t.Error(err)
	}
	if _, err := r.Append(nil); err != api.ErrDown {
		t.Error(err)
	}
	if r.Truncate(2) != api.ErrArg || r.Truncate(1) != api.ErrDown || r.Truncate(0) != api.ErrDown {
		t.Error("Truncate without power")
	}
	if s := told(r); len(s.l) != 1 || r.Next() != 2 {
		t.Errorf("%v", s)
	}
}

func TestNothingIsShared(t *testing.T) { // P2
	r := format(t, newDisk(t, 20, 64), 0, 20)
	r.Append([]byte{1, 2})
	r.Append([]byte{3, 4})
	_, l := r.Records()
	_ = append(l[0][:2], 9, 9, 9, 9, 9, 9, 9, 9)
	l[1][0] = 9
	if want := (state{1, [][]byte{{1, 2}, {3, 4}}}); !told(r).same(want) {
		t.Errorf("%v", told(r))
	}
}

func TestFormatAgain(t *testing.T) { // P901, P902
	for _, n := range []int{8, 12} {
		for arm := 1; arm < 6; arm++ {
			for old := range 4 {
				d := newDisk(t, 12, 64)
				r := format(t, d, 0, 12)
				for i := range old {
					r.Append([]byte{byte(i)})
				}
				before := told(r)
				d.Arm(arm, true, true)
				_, err := ring.Format(d, 0, n)
				d.On()
				now, nerr := ring.Open(d, 0, n)
				was, werr := ring.Open(d, 0, 12)
				if nerr == api.OK && len(told(now).l) == 0 && now.Next() == 1 && (n == 12 || werr == api.ErrForm) {
					continue // all
				}
				if err != api.ErrDown || werr != api.OK || !told(was).same(before) {
					t.Errorf("to %d, cut at %d behind %d: %v, %v, %v", n, arm, old, err, nerr, werr)
				}
			}
		}
	}
}

// step is one call, and what it would make of a state.
type step func(r *ring.Ring, s state) (state, api.Errno)

func anyStep(rng *rand.Rand, d *disk.Disk, at, n int) step {
	if rng.Intn(3) == 0 {
		back := uint64(rng.Intn(4))
		return func(r *ring.Ring, s state) (state, api.Errno) {
			up := r.Next() - 1 - min(back, r.Next()-1)
			return s.truncated(up), r.Truncate(up)
		}
	}
	b := make([]byte, rng.Intn(150))
	rng.Read(b)
	if rng.Intn(3) == 0 { // what stands in the log's own sectors
		all := d.Bytes()
		size := len(all) / 12
		b = all[(at+rng.Intn(n))*size:][:size]
		b = b[rng.Intn(8):]
	}
	return func(r *ring.Ring, s state) (state, api.Errno) {
		_, err := r.Append(b)
		if err == api.ErrFull {
			return s, err
		}
		return s.appended(b), err
	}
}

func TestCuts(t *testing.T) { // P902, T2, P5
	for seed := range int64(600) {
		rng := rand.New(rand.NewSource(seed))
		size := []int{64, 67, 96}[rng.Intn(3)]
		at, n := rng.Intn(2), 8+rng.Intn(3)
		d := newDisk(t, 12, size)
		r := format(t, d, at, n)
		now := told(r)
		for range 30 {
			do := anyStep(rng, d, at, n)
			if rng.Intn(2) == 0 {
				d.Arm(1+rng.Intn(5), rng.Intn(2) == 0, rng.Intn(2) == 0, rng.Intn(2) == 0, rng.Intn(2) == 0)
			}
			next, err := do(r, now)
			switch err {
			case api.OK:
				now = next
			case api.ErrDown:
				if !told(r).same(now) || r.Next() != now.first+uint64(len(now.l)) {
					t.Fatalf("seed %d: a call that was cut changed %v to %v", seed, now, told(r))
				}
				d.On()
				kept := told(reopen(t, d, at, n))
				if !kept.same(now) && !kept.same(next) {
					t.Fatalf("seed %d: %v, neither %v nor %v", seed, kept, now, next)
				}
				if rng.Intn(2) == 0 { // else the log goes on that was cut
					r = reopen(t, d, at, n)
					now = kept
				}
			}
			d.Arm(math.MaxInt)
			if err == api.OK && !told(reopen(t, d, at, n)).same(now) {
				t.Fatalf("seed %d: %v, not %v", seed, told(reopen(t, d, at, n)), now)
			}
		}
	}
}

func TestCutOfTheSameLogAgainAndAgain(t *testing.T) { // P902: the log goes on behind each cut, without an Open
	for seed := range int64(300) {
		rng := rand.New(rand.NewSource(seed))
		d := newDisk(t, 12, 64)
		r := format(t, d, 0, 8)
		now := told(r)
		may := []state{now}
		for range 40 {
			d.Arm(1+rng.Intn(4), rng.Intn(2) == 0, rng.Intn(2) == 0, rng.Intn(2) == 0)
			next, err := anyStep(rng, d, 0, 8)(r, now)
			d.On()
			if err == api.OK {
				now, may = next, []state{next}
			} else if err == api.ErrDown {
				may = append(may, next)
			}
			kept := told(reopen(t, d, 0, 8))
			if !slices.ContainsFunc(may, kept.same) {
				t.Fatalf("seed %d: %v is none of %v", seed, kept, may)
			}
		}
	}
}

func TestAnyBytesEnd(t *testing.T) { // P902, P1
	for seed := range int64(3000) {
		rng := rand.New(rand.NewSource(seed))
		d := newDisk(t, 10, 64)
		r := format(t, d, 0, 10)
		for range rng.Intn(12) {
			if _, err := r.Append(make([]byte, rng.Intn(90))); err != api.OK {
				r.Truncate(r.Next() - 1)
			}
		}
		b := d.Bytes()
		for range 1 + rng.Intn(4) {
			at := rng.Intn(2 * 64)
			if rng.Intn(3) == 0 {
				at = rng.Intn(len(b))
			}
			b[at] = []byte{0, 1, 2, 0xff, byte(rng.Intn(256))}[rng.Intn(5)]
		}
		x, _ := disk.Of(b, 64)
		o, err := ring.Open(x, 0, 10)
		if err != api.OK && (err != api.ErrForm || o != nil) {
			t.Fatalf("seed %d: %v", seed, err)
		}
		if err == api.OK {
			// Whatever log was found, it is one.
			before := told(o)
			if o.Truncate(o.Next()-1) != api.OK {
				t.Fatalf("seed %d: not to truncate: %v", seed, before)
			}
			if no, err := o.Append([]byte("more")); err != api.OK || no != before.first+uint64(len(before.l)) {
				t.Fatalf("seed %d: %d, %v", seed, no, err)
			}
			if s := told(reopen(t, x, 0, 10)); len(s.l) != 1 || string(s.l[0]) != "more" {
				t.Fatalf("seed %d: %v", seed, s)
			}
		}
	}
}
