package store

import (
	"testing"

	"loam/api"
	"loam/disk"
	"loam/rec"
	"loam/ring"
)

// A log whose last record is no table has no store behind it.
func TestWrongTables(t *testing.T) { // P1202, P1201
	for i, c := range []struct {
		r    rec.Record
		more string // bytes behind the record
		want api.Errno
	}{
		{rec.Record{Kind: rec.Commit, Data: []byte{0, 2}}, "", api.OK},
		{rec.Record{Kind: rec.Commit, Data: []byte{1}}, "", api.OK},
		{rec.Record{Kind: rec.Commit, Data: []byte{0, 3}}, "", api.ErrForm},
		{rec.Record{Kind: rec.Commit, Data: []byte{0xff, 0}}, "", api.ErrForm},
		{rec.Record{Kind: rec.Commit, Data: []byte{0, 0, 0}}, "", api.ErrForm}, // more pages than there is room for
		{rec.Record{Kind: rec.Commit}, "", api.ErrForm},
		{rec.Record{Kind: rec.Commit, Tx: 1, Data: []byte{0}}, "", api.ErrForm},
		{rec.Record{Kind: rec.Note, Data: []byte{0}}, "", api.ErrForm},
		{rec.Record{Kind: rec.Page, Data: []byte{0}}, "", api.ErrForm},
		{rec.Record{Kind: rec.Commit, Data: []byte{0}}, "x", api.ErrForm},
	} {
		d, _ := disk.New(22, 64)
		log, err := ring.Format(d, 0, logSectors(22))
		if err != api.OK {
			t.Fatal(err)
		}
		if _, err := Open(d, 0, 22); err != api.ErrForm {
			t.Errorf("%d: of an empty log: %v", i, err)
		}
		b, err := rec.Encode(c.r)
		if err != api.OK {
			t.Fatal(err)
		}
		log.Append(append(b, c.more...))
		s, err := Open(d, 0, 22)
		if err != c.want || err != api.OK && s != nil || err == api.OK && s.Pages() != len(c.r.Data) {
			t.Errorf("%d: %v", i, err)
		}
		if s, err := Format(d, 0, 22, 2); err != api.OK || s.Pages() != 2 {
			t.Errorf("%d: Format: %v", i, err)
		}
	}
}
