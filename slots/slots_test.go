package slots_test

import (
	"bytes"
	"testing"

	"loam/api"
	"loam/disk"
	"loam/geom"
	"loam/slots"
	"loam/sup"
)

var shape = geom.Geom{Sector: 64, Log: 8, Words: 64}

func block(epoch uint64) sup.Block {
	return sup.Block{Epoch: epoch, Geom: shape, Words: int(epoch % 64)}
}

func newDisk(t *testing.T, sectors, size int) *disk.Disk {
	t.Helper()
	d, err := disk.New(sectors, size)
	if err != api.OK {
		t.Fatal(err)
	}
	return d
}

// put lets a block stand in a sector, be it right there or not.
func put(t *testing.T, d *disk.Disk, sector int, b sup.Block) {
	t.Helper()
	s, err := sup.Encode(b)
	if err != api.OK || d.Write(sector, s) != api.OK || d.Sync() != api.OK {
		t.Fatal(err)
	}
}

func TestReadTellsTheNewer(t *testing.T) { // P701, W2
	d := newDisk(t, geom.Sectors(shape), 64)
	if b, err := slots.Read(d); err != api.ErrForm || b != (sup.Block{}) {
		t.Errorf("of nothing: %v, %v", b, err)
	}
	for _, e := range []uint64{4, 5, 6, 9, 3, 2} {
		if err := slots.Write(d, block(e)); err != api.OK {
			t.Fatal(err)
		}
		if d.Pending() != 0 {
			t.Error("Write leaves what is pending")
		}
		want := map[uint64]uint64{4: 4, 5: 5, 6: 6, 9: 9, 3: 6, 2: 3}[e]
		if b, err := slots.Read(d); err != api.OK || b != block(want) {
			t.Errorf("behind %d: %v, %v", e, b, err)
		}
	}
	if l, right, err := slots.Both(d); err != api.OK || l != [2]sup.Block{block(2), block(3)} || right != [2]bool{true, true} {
		t.Errorf("%v, %v, %v", l, right, err)
	}
}

func TestOnlyOneIsRight(t *testing.T) { // P701, P4
	for i := range 2 {
		d := newDisk(t, 100, 64)
		put(t, d, i, block(uint64(10+i)))
		put(t, d, 1-i, block(uint64(20+i))) // in the other's slot
		var want [2]sup.Block
		var ok [2]bool
		want[i], ok[i] = block(uint64(10+i)), true
		if l, right, err := slots.Both(d); err != api.OK || l != want || right != ok {
			t.Errorf("%v, %v, %v", l, right, err)
		}
		if b, err := slots.Read(d); err != api.OK || b != want[i] {
			t.Errorf("%v, %v", b, err)
		}
	}
}

func TestBlocksOfOtherDisks(t *testing.T) { // P701
	big := sup.Block{Epoch: 1, Geom: geom.Geom{Sector: 64, Log: 9, Words: 64}}
	d := newDisk(t, geom.Sectors(shape), 64)
	put(t, d, 1, big)
	if _, right, err := slots.Both(d); err != api.OK || right != [2]bool{} {
		t.Errorf("one that is above the disk: %v, %v", right, err)
	}
	if err := slots.Write(d, big); err != api.ErrArg {
		t.Errorf("written: %v", err)
	}
	other := sup.Block{Geom: geom.Geom{Sector: 72, Log: 8, Words: 64}}
	if err := slots.Write(d, other); err != api.ErrArg {
		t.Errorf("of another size: %v", err)
	}
	wide := newDisk(t, geom.Sectors(shape)+5, 64)
	if err := slots.Write(wide, block(0)); err != api.OK {
		t.Errorf("on a disk of more sectors: %v", err)
	}
	if err := slots.Write(d, sup.Block{Geom: shape, Words: 65}); err != api.ErrArg {
		t.Errorf("of no block: %v", err)
	}
	if d.Writes() != 1 {
		t.Error("what was refused was written")
	}
}

func TestErrorsInTheirOrder(t *testing.T) { // P701, P6
	one := newDisk(t, 1, 64)
	if _, _, err := slots.Both(one); err != api.ErrArg {
		t.Error(err)
	}
	if b, err := slots.Read(one); err != api.ErrArg || b != (sup.Block{}) {
		t.Error(err)
	}
	if err := slots.Write(one, block(0)); err != api.ErrArg {
		t.Error(err)
	}
	one.Cut()
	if _, _, err := slots.Both(one); err != api.ErrDown {
		t.Error(err)
	}
	if _, err := slots.Read(one); err != api.ErrDown {
		t.Error(err)
	}
	d := newDisk(t, 100, 64)
	d.Cut()
	if err := slots.Write(d, block(0)); err != api.ErrDown {
		t.Error(err)
	}
	if err := slots.Write(d, sup.Block{}); err != api.ErrArg {
		t.Error(err)
	}
}

func TestWriteSyncsAhead(t *testing.T) { // P701
	d := newDisk(t, 100, 64)
	b := bytes.Repeat([]byte{5}, 64)
	if d.Write(50, b) != api.OK {
		t.Fatal()
	}
	d.Arm(1) // the superblock's own write; nothing that is pending is kept
	if err := slots.Write(d, block(0)); err != api.ErrDown {
		t.Fatal(err)
	}
	d.On()
	if r, _ := d.Read(50); !bytes.Equal(r, b) {
		t.Error("what was pending ahead does not last")
	}
}

func TestCutLeavesTheOtherSlot(t *testing.T) { // P702, T2
	for epoch := range uint64(2) {
		for n := 1; n < 4; n++ {
			for _, keep := range [][]bool{nil, {true}, {true, true}} {
				d := newDisk(t, 100, 64)
				slots.Write(d, block(2+epoch))
				slots.Write(d, block(3+epoch))
				d.Arm(n, keep...)
				err := slots.Write(d, block(4+epoch))
				d.On()
				l, right, _ := slots.Both(d)
				other, own := sup.Slot(3+epoch), sup.Slot(4+epoch)
				if right != [2]bool{true, true} || l[other] != block(3+epoch) || l[own] != block(2+epoch) && l[own] != block(4+epoch) || err == api.OK && l[own] != block(4+epoch) {
					t.Errorf("%d, %d, %v: %v", epoch, n, keep, l)
				}
			}
		}
	}
}
