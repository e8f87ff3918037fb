package store

import (
	"bytes"
	"testing"

	"loam/api"
	"loam/disk"
	"loam/ring"
)

// A Commit that was cut, and that the log tells of all the same: its pages stay whole till a newer table lasts.
func TestTableThatWasCutAndKept(t *testing.T) { // P1202
	page := func(x byte) []byte { return bytes.Repeat([]byte{x}, 48) }
	fill := func(s *Store, x byte) {
		s.Write(0, page(x))
		s.Write(1, page(x))
	}
	ended := false
	for arm := 1; !ended; arm++ {
		d, _ := disk.New(22, 64)
		s, err := Format(d, 0, 22, 2)
		if err != api.OK {
			t.Fatal(err)
		}
		fill(s, 1)
		s.Commit()
		cut, _ := Open(d, 0, 22)
		fill(cut, 2)
		cut.Commit()
		// As if that Commit were the one of which s was told ErrDown.
		s.doubt = true
		s.log, _ = ring.Open(d, 0, logSectors(22))
		fill(s, 3)
		d.Arm(arm, true, true, true)
		ended = s.Commit() == api.OK
		d.On()
		o, err := Open(d, 0, 22)
		if err != api.OK {
			t.Fatal(err)
		}
		a, _ := o.Read(0)
		b, _ := o.Read(1)
		if !bytes.Equal(a, b) || ended && a[0] != 3 {
			t.Errorf("cut at %d: %d and %d", arm, a[0], b[0])
		}
	}
}
