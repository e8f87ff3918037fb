package disk_test

import (
	"bytes"
	"math"
	"testing"

	"loam/api"
	"loam/disk"
)

const size = 64

func full(x byte) []byte { return bytes.Repeat([]byte{x}, size) }

func newDisk(t *testing.T, sectors int) *disk.Disk {
	t.Helper()
	d, err := disk.New(sectors, size)
	if err != api.OK {
		t.Fatal(err)
	}
	return d
}

func write(t *testing.T, d *disk.Disk, sector int, x byte) {
	t.Helper()
	if err := d.Write(sector, full(x)); err != api.OK {
		t.Fatalf("Write(%d): %v", sector, err)
	}
}

// firsts tells the first byte of each sector that is kept.
func firsts(d *disk.Disk) []byte {
	var out []byte
	for i, b := range d.Bytes() {
		if i%size == 0 {
			out = append(out, b)
		}
	}
	return out
}

func TestNewAndOf(t *testing.T) { // P301
	for _, c := range []struct {
		sectors, size int
		want          api.Errno
	}{{1, 64, api.OK}, {api.MaxSectors, 64, api.OK}, {2, 1024, api.OK}, {2, 77, api.OK}, {0, 64, api.ErrArg}, {-1, 64, api.ErrArg}, {api.MaxSectors + 1, 64, api.ErrArg}, {2, 63, api.ErrArg}, {2, 1025, api.ErrArg}, {2, 0, api.ErrArg}, {math.MaxInt, math.MaxInt, api.ErrArg}, {2, math.MinInt, api.ErrArg}} {
		d, err := disk.New(c.sectors, c.size)
		if err != c.want || err != api.OK && d != nil {
			t.Errorf("New(%d, %d): %v", c.sectors, c.size, err)
		}
		if err == api.OK {
			if n, s := d.Shape(); n != c.sectors || s != c.size || d.Off() || len(bytes.Trim(d.Bytes(), "\x00")) != 0 {
				t.Errorf("New(%d, %d): %d, %d", c.sectors, c.size, n, s)
			}
		}
	}
	for _, c := range []struct {
		bytes, size int
		want        api.Errno
	}{{128, 64, api.OK}, {64, 64, api.OK}, {0, 64, api.ErrArg}, {127, 64, api.ErrArg}, {128, 128, api.OK}, {128, 0, api.ErrArg}, {128, -64, api.ErrArg}, {126, 63, api.ErrArg}, {2050, 1025, api.ErrArg}, {(api.MaxSectors + 1) * 64, 64, api.ErrArg}} {
		if d, err := disk.Of(make([]byte, c.bytes), c.size); err != c.want || err != api.OK && d != nil {
			t.Errorf("Of(%d, %d): %v", c.bytes, c.size, err)
		}
	}
	b := full(7)
	d, _ := disk.Of(b, size)
	b[0] = 8
	if !bytes.Equal(d.Bytes(), full(7)) {
		t.Error("Of keeps what it was handed")
	}
}

func TestWriteIsPendingTillSync(t *testing.T) { // P301, W1
	d := newDisk(t, 3)
	b := full(1)
	if err := d.Write(1, b); err != api.OK {
		t.Fatal(err)
	}
	b[0] = 9
	if r, err := d.Read(1); err != api.OK || !bytes.Equal(r, full(1)) {
		t.Errorf("read: %x, %v", r, err)
	}
	write(t, d, 1, 2)
	if d.Pending() != 2 || d.Writes() != 2 || !bytes.Equal(firsts(d), []byte{0, 0, 0}) {
		t.Errorf("%d pending, %d written, %v kept", d.Pending(), d.Writes(), firsts(d))
	}
	if r, _ := d.Read(1); !bytes.Equal(r, full(2)) {
		t.Errorf("the newest is read: %x", r)
	}
	if err := d.Sync(); err != api.OK || d.Pending() != 0 || d.Writes() != 2 || !bytes.Equal(firsts(d), []byte{0, 2, 0}) {
		t.Errorf("behind Sync: %v, %d, %v", err, d.Pending(), firsts(d))
	}
	r, _ := d.Read(1)
	r[0] = 9
	if again, _ := d.Read(1); !bytes.Equal(again, full(2)) {
		t.Error("an answer is the disk's own memory")
	}
	d.Bytes()[0] = 9
	if firsts(d)[0] != 0 {
		t.Error("Bytes is the disk's own memory")
	}
}

func TestWrongSectors(t *testing.T) { // P301, P5, P9
	d := newDisk(t, 2)
	for _, s := range []int{-1, 2, math.MaxInt, math.MinInt} {
		if err := d.Write(s, full(1)); err != api.ErrArg {
			t.Errorf("Write(%d): %v", s, err)
		}
		if r, err := d.Read(s); err != api.ErrArg || r != nil {
			t.Errorf("Read(%d): %v", s, err)
		}
	}
	for _, n := range []int{0, 63, 65} {
		if err := d.Write(0, make([]byte, n)); err != api.ErrArg {
			t.Errorf("%d bytes: %v", n, err)
		}
	}
	if d.Pending() != 0 || d.Writes() != 0 {
		t.Error("what was refused counts")
	}
}

func TestPowerOff(t *testing.T) { // P301, P6
	d := newDisk(t, 2)
	d.Cut()
	if !d.Off() || d.Write(9, nil) != api.ErrDown || d.Sync() != api.ErrDown {
		t.Error("a disk without power works")
	}
	if _, err := d.Read(9); err != api.ErrDown {
		t.Error(err)
	}
	d.On()
	if d.Off() || d.Write(0, full(1)) != api.OK || d.Sync() != api.OK {
		t.Error("the power did not come back")
	}
}

func TestCutKeepsWhatItLikes(t *testing.T) { // P301, W1
	for _, c := range []struct {
		keep []bool
		want []byte
	}{
		{nil, []byte{0, 0}}, {[]bool{true}, []byte{1, 0}}, {[]bool{false, true}, []byte{0, 2}}, {[]bool{true, false, true}, []byte{3, 0}},
		{[]bool{true, true, true}, []byte{3, 2}}, {[]bool{true, true, true, true, true}, []byte{3, 2}}, {[]bool{true, true}, []byte{1, 2}},
	} {
		d := newDisk(t, 2)
		write(t, d, 0, 1)
		write(t, d, 1, 2)
		write(t, d, 0, 3)
		d.Cut(c.keep...)
		if !bytes.Equal(firsts(d), c.want) || d.Pending() != 0 || !d.Off() {
			t.Errorf("%v: %v", c.keep, firsts(d))
		}
		d.On()
		if r, _ := d.Read(0); r[0] != c.want[0] {
			t.Errorf("%v: read %d", c.keep, r[0])
		}
	}
}

func TestArm(t *testing.T) { // P301
	d := newDisk(t, 3)
	keep := []bool{true, false}
	d.Arm(3, keep...)
	keep[0], keep[1] = false, true
	write(t, d, 0, 1)
	if d.Write(7, full(1)) != api.ErrArg || d.Write(0, nil) != api.ErrArg {
		t.Error("wrong writes are told otherwise")
	}
	write(t, d, 1, 2)
	if err := d.Write(2, full(3)); err != api.ErrDown || !d.Off() || d.Writes() != 2 {
		t.Errorf("the armed one: %v", err)
	}
	if !bytes.Equal(firsts(d), []byte{1, 0, 0}) {
		t.Errorf("kept: %v", firsts(d))
	}
	d.On()
	for range 5 {
		write(t, d, 0, 4)
	}
}

func TestArmAgainAndBelowOne(t *testing.T) { // P301
	d := newDisk(t, 1)
	d.Arm(1)
	d.Arm(2)
	write(t, d, 0, 1)
	if d.Write(0, full(2)) != api.ErrDown {
		t.Error("the newer Arm does not count")
	}
	for _, n := range []int{0, -5, math.MinInt} {
		d.On()
		d.Arm(n)
		if d.Write(0, full(1)) != api.ErrDown {
			t.Errorf("Arm(%d) is not the next", n)
		}
	}
	d.On()
	d.Arm(1)
	d.Cut()
	d.On()
	write(t, d, 0, 1)
}

func TestTwinIsApart(t *testing.T) { // P301, P7
	d := newDisk(t, 2)
	for range 3 { // so that there may be spare room for more
		write(t, d, 0, 1)
	}
	a := d.Twin()
	write(t, d, 1, 2)
	write(t, a, 1, 5)
	a.Sync()
	d.Sync()
	if !bytes.Equal(firsts(d), []byte{1, 2}) || !bytes.Equal(firsts(a), []byte{1, 5}) {
		t.Error("pending writes are shared")
	}
	d = newDisk(t, 2)
	write(t, d, 0, 1)
	d.Arm(2, true, true)
	w := d.Twin()
	write(t, d, 1, 2)
	d.Sync()
	if w.Pending() != 1 || w.Writes() != 1 || !bytes.Equal(firsts(w), []byte{0, 0}) {
		t.Error("the twin follows")
	}
	write(t, w, 1, 5)
	if w.Write(1, full(6)) != api.ErrDown || d.Off() || !bytes.Equal(firsts(w), []byte{1, 5}) {
		t.Errorf("the twin is not armed alike: %v", firsts(w))
	}
	if r, _ := d.Read(1); r[0] != 2 {
		t.Error("the disk follows its twin")
	}
}
