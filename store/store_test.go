package store_test

import (
	"bytes"
	"math"
	"math/rand"
	"slices"
	"testing"

	"loam/api"
	"loam/disk"
	"loam/store"
)

func newDisk(t *testing.T, sectors, size int) *disk.Disk {
	t.Helper()
	d, err := disk.New(sectors, size)
	if err != api.OK {
		t.Fatal(err)
	}
	return d
}

func format(t *testing.T, d *disk.Disk, at, n, pages int) *store.Store {
	t.Helper()
	s, err := store.Format(d, at, n, pages)
	if err != api.OK {
		t.Fatal(err)
	}
	return s
}

func open(t *testing.T, d *disk.Disk, at, n int) *store.Store {
	t.Helper()
	s, err := store.Open(d, at, n)
	if err != api.OK {
		t.Fatalf("Open: %v", err)
	}
	return s
}

// all tells every page.
func all(t *testing.T, s *store.Store) [][]byte {
	t.Helper()
	var out [][]byte
	for p := range s.Pages() {
		b, err := s.Read(p)
		if err != api.OK {
			t.Fatalf("Read(%d): %v", p, err)
		}
		out = append(out, b)
	}
	return out
}

func same(a, b [][]byte) bool { return slices.EqualFunc(a, b, bytes.Equal) }

func zeros(pages, size int) [][]byte {
	out := make([][]byte, pages)
	for i := range out {
		out[i] = make([]byte, size-16)
	}
	return out
}

func TestArguments(t *testing.T) { // P1201, P6
	d := newDisk(t, 4000, 64)
	for _, c := range [][3]int{{0, 18, 1}, {0, 21, 2}, {0, 100, 0}, {0, 100, -1}, {0, 100, 29}, {0, 4001, 3}, {-1, 100, 3}, {3950, 100, 3}, {0, 4000, 1025}, {math.MaxInt, math.MaxInt, 1}, {0, math.MinInt, math.MinInt}, {0, 100, math.MaxInt}, {math.MinInt, 100, 1}} {
		if s, err := store.Format(d, c[0], c[1], c[2]); s != nil || err != api.ErrArg {
			t.Errorf("Format(%v): %v", c, err)
		}
	}
	for _, c := range [][2]int{{0, 18}, {0, 4001}, {-1, 100}, {3950, 100}, {0, -1}, {math.MaxInt, math.MaxInt}} {
		if s, err := store.Open(d, c[0], c[1]); s != nil || err != api.ErrArg {
			t.Errorf("Open(%v): %v", c, err)
		}
	}
	if s, err := store.Open(d, 0, 100); s != nil || err != api.ErrForm {
		t.Errorf("Open of nothing: %v", err)
	}
	if d.Writes() != 0 {
		t.Error("what was refused was written")
	}
	for _, c := range [][3]int{{0, 19, 1}, {3981, 19, 1}, {5, 22, 2}, {0, 3088, 1024}, {0, 4000, 1024}} {
		s := format(t, d, c[0], c[1], c[2])
		if s.Pages() != c[2] || s.Most() < min(8, c[2]) || len(s.Changed()) != 0 || !same(all(t, s), zeros(c[2], 64)) {
			t.Errorf("Format(%v)", c)
		}
		if o := open(t, d, c[0], c[1]); o.Pages() != c[2] {
			t.Errorf("Open(%v)", c)
		}
	}
	d.Cut()
	if _, err := store.Format(d, 0, 18, 1); err != api.ErrArg {
		t.Error(err)
	}
	if s, err := store.Format(d, 0, 100, 1); s != nil || err != api.ErrDown {
		t.Error(err)
	}
	if s, err := store.Open(d, 0, 100); s != nil || err != api.ErrDown {
		t.Error(err)
	}
}

func TestReadAndWrite(t *testing.T) { // P1201, P2, P6
	d := newDisk(t, 60, 80)
	s := format(t, d, 0, 60, 10)
	full := bytes.Repeat([]byte{7}, 64)
	for _, p := range []int{-1, 10, math.MaxInt, math.MinInt} {
		if b, err := s.Read(p); b != nil || err != api.ErrArg {
			t.Errorf("Read(%d): %v", p, err)
		}
		if err := s.Write(p, full); err != api.ErrArg {
			t.Errorf("Write(%d): %v", p, err)
		}
	}
	for _, n := range []int{0, 63, 65, 80} {
		if err := s.Write(1, make([]byte, n)); err != api.ErrArg {
			t.Errorf("%d bytes: %v", n, err)
		}
	}
	for _, p := range []int{7, 2, 7} {
		if err := s.Write(p, full); err != api.OK {
			t.Error(err)
		}
	}
	full[0] = 9
	b, err := s.Read(7)
	if err != api.OK || len(b) != 64 || b[0] != 7 || !slices.Equal(s.Changed(), []int{2, 7}) {
		t.Errorf("%v, %v, %v", b, err, s.Changed())
	}
	b[0] = 9
	if b, _ := s.Read(7); b[0] != 7 {
		t.Error("an answer is the store's own")
	}
	if !same(all(t, open(t, d, 0, 60)), zeros(10, 80)) {
		t.Error("what was not committed lasts")
	}
	if err := s.Commit(); err != api.OK || len(s.Changed()) != 0 {
		t.Errorf("%v, %v", err, s.Changed())
	}
	if !same(all(t, open(t, d, 0, 60)), all(t, s)) || d.Pending() != 0 {
		t.Error("what was committed does not last")
	}
	d.Cut()
	if b, err := s.Read(7); b != nil || err != api.ErrDown {
		t.Error(err)
	}
	if _, err := s.Read(10); err != api.ErrArg {
		t.Error(err)
	}
	if err := s.Commit(); err != api.ErrDown {
		t.Error(err)
	}
	if err := s.Write(1, make([]byte, 64)); err != api.OK {
		t.Error(err)
	}
}

func TestMostPagesAtOnce(t *testing.T) { // P1201
	for _, pages := range []int{1, 7, 8, 30, 1024} {
		n := 3*pages + 16
		d := newDisk(t, n, 64)
		s := format(t, d, 0, n, pages)
		for round := range 3 {
			for p := range s.Most() {
				if err := s.Write(p, bytes.Repeat([]byte{byte(p + round + 1)}, 48)); err != api.OK {
					t.Fatal(err)
				}
			}
			if s.Most() < pages {
				before := s.Changed()
				if err := s.Write(s.Most(), make([]byte, 48)); err != api.ErrFull || !slices.Equal(s.Changed(), before) {
					t.Error(err)
				}
			}
			if s.Write(0, bytes.Repeat([]byte{byte(round)}, 48)) != api.OK || s.Commit() != api.OK {
				t.Fatal()
			}
			o := open(t, d, 0, n)
			if b, _ := o.Read(0); b[0] != byte(round) || !same(all(t, o), all(t, s)) {
				t.Errorf("%d pages, round %d", pages, round)
			}
		}
	}
}

func TestAbort(t *testing.T) { // P1201
	d := newDisk(t, 60, 64)
	s := format(t, d, 0, 60, 5)
	s.Write(1, bytes.Repeat([]byte{1}, 48))
	s.Abort()
	if len(s.Changed()) != 0 || !same(all(t, s), zeros(5, 64)) {
		t.Error("not as Format made it")
	}
	s.Write(1, bytes.Repeat([]byte{1}, 48))
	s.Commit()
	was := all(t, s)
	s.Write(1, bytes.Repeat([]byte{2}, 48))
	s.Write(2, bytes.Repeat([]byte{2}, 48))
	s.Abort()
	if !same(all(t, s), was) || s.Commit() != api.OK || !same(all(t, open(t, d, 0, 60)), was) {
		t.Error("not as at the last Commit")
	}
}

func TestNoOtherSectorIsTouched(t *testing.T) { // P1201
	b := bytes.Repeat([]byte{0xa5}, 60*70)
	d, _ := disk.Of(b, 70)
	s := format(t, d, 20, 22, 2)
	for i := range 20 {
		s.Write(i%2, bytes.Repeat([]byte{byte(i)}, 54))
		s.Commit()
	}
	got := d.Bytes()
	if !bytes.Equal(got[:20*70], b[:20*70]) || !bytes.Equal(got[42*70:], b[42*70:]) {
		t.Error("touched")
	}
}

func TestFormatAgain(t *testing.T) { // P1201, P1202: the old pages, or new ones of 0
	for _, pages := range []int{3, 14} {
		for arm := 1; arm < 8; arm++ {
			d := newDisk(t, 60, 64)
			s := format(t, d, 0, 60, 14)
			s.Write(13, bytes.Repeat([]byte{5}, 48))
			s.Commit()
			was := all(t, s)
			d.Arm(arm, true, true, true)
			_, err := store.Format(d, 0, 60, pages)
			d.On()
			now := all(t, open(t, d, 0, 60))
			if !same(now, zeros(pages, 64)) && (err == api.OK || !same(now, was)) {
				t.Errorf("%d pages, cut at %d: %v", pages, arm, now)
			}
		}
	}
}

// keeps tells some of the pending writes to be kept.
func keeps(rng *rand.Rand) []bool {
	out := make([]bool, rng.Intn(12))
	for i := range out {
		out[i] = rng.Intn(2) == 0
	}
	return out
}

func TestCuts(t *testing.T) { // P1202, T2, P5
	for seed := range int64(400) {
		rng := rand.New(rand.NewSource(seed))
		pages := 1 + rng.Intn(9)
		at, n := rng.Intn(3), 3*pages+16+rng.Intn(4)
		d := newDisk(t, n+3, 64)
		s := format(t, d, at, n, pages)
		kept := all(t, s)
		may := [][][]byte{kept} // what Open may tell; more than one while no Commit was told OK
		for range 25 {
			for range rng.Intn(5) {
				b := make([]byte, 48)
				rng.Read(b)
				s.Write(rng.Intn(pages), b)
			}
			if rng.Intn(6) == 0 {
				s.Abort()
			}
			now, changed := all(t, s), s.Changed()
			if rng.Intn(2) == 0 {
				d.Arm(1+rng.Intn(10), keeps(rng)...)
			}
			err := s.Commit()
			d.On()
			d.Arm(math.MaxInt)
			if err == api.OK {
				kept, may = now, [][][]byte{now}
			} else {
				may = append(may, now)
				if !same(all(t, s), now) || !slices.Equal(s.Changed(), changed) {
					t.Fatalf("seed %d: a Commit that was cut changed the store", seed)
				}
			}
			o := open(t, d, at, n)
			told := all(t, o)
			if !slices.ContainsFunc(may, func(x [][]byte) bool { return same(x, told) }) {
				t.Fatalf("seed %d: %v", seed, told)
			}
			if err != api.OK && rng.Intn(2) == 0 { // else the store goes on that was cut
				s, kept, may = o, told, [][][]byte{told}
			}
		}
	}
}

func TestAnyBytesEnd(t *testing.T) { // P1202, P1
	for seed := range int64(2000) {
		rng := rand.New(rand.NewSource(seed))
		d := newDisk(t, 22, 64)
		s := format(t, d, 0, 22, 2)
		for range rng.Intn(4) {
			s.Write(rng.Intn(2), bytes.Repeat([]byte{3}, 48))
			s.Commit()
		}
		b := d.Bytes()
		for range 1 + rng.Intn(4) {
			at := rng.Intn(len(b))
			if rng.Intn(2) == 0 {
				at = rng.Intn(7 * 64)
			}
			b[at] = []byte{0, 1, 2, 0xff, byte(rng.Intn(256))}[rng.Intn(5)]
		}
		x, _ := disk.Of(b, 64)
		o, err := store.Open(x, 0, 22)
		if err != api.OK {
			if err != api.ErrForm || o != nil {
				t.Fatalf("seed %d: %v", seed, err)
			}
			o = format(t, x, 0, 22, 2)
		}
		want := all(t, o)
		want[0] = bytes.Repeat([]byte{9}, 48)
		if o.Write(0, want[0]) != api.OK || o.Commit() != api.OK || !same(all(t, open(t, x, 0, 22)), want) {
			t.Fatalf("seed %d: it is no store", seed)
		}
	}
}
