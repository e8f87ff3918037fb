package ring

import (
	"testing"

	"loam/api"
	"loam/disk"
)

// A head that was cut, and is kept all the same: what it speaks of stays whole till a newer head counts.
func TestHeadThatWasCutAndKept(t *testing.T) { // P902
	for arm := 1; arm < 6; arm++ {
		d, _ := disk.New(8, 64)
		r, _ := Format(d, 0, 8)
		r.Append([]byte("old"))
		other, _ := Open(d, 0, 8)
		other.Append([]byte("cut"))
		r.doubt = true // as if that head were the one that r was told ErrDown of
		d.Arm(arm, true, true)
		no, err := r.Append([]byte("new"))
		d.On()
		o, oerr := Open(d, 0, 8)
		if oerr != api.OK {
			t.Fatal(oerr)
		}
		got := ""
		for _, b := range o.records[1:] {
			got += string(b)
		}
		if err == api.OK && (got != "new" || no != 2) || err != api.OK && got != "cut" && got != "" {
			t.Errorf("cut at %d: %v, %q", arm, err, got)
		}
	}
}
