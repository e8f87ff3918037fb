package ring

import (
	"testing"

	"loam/api"
	"loam/disk"
)

// A head that says what may not be is none, whatever its bytes.
func TestWrongHeads(t *testing.T) { // P902, P901
	for i, c := range []struct {
		change func(h *head)
		want   api.Errno
	}{
		{func(h *head) {}, api.OK},
		{func(h *head) { h.first = mostNumber - 1 }, api.OK},
		{func(h *head) { h.first = 0 }, api.ErrForm},
		{func(h *head) { h.first = mostNumber }, api.ErrForm},
		{func(h *head) { h.first = 1<<64 - 1 }, api.ErrForm},
		{func(h *head) { h.count = 0 }, api.ErrForm},
		{func(h *head) { h.count = 1 }, api.ErrForm},
		{func(h *head) { h.count = 4 }, api.ErrForm},
		{func(h *head) { h.count = 1<<32 - 1 }, api.ErrForm},
		{func(h *head) { h.count = 1<<32 + 2 }, api.ErrForm},
		{func(h *head) { h.used = 2 }, api.ErrForm},
		{func(h *head) { h.used = 4 }, api.ErrForm},
		{func(h *head) { h.used, h.count = 8, 8 }, api.ErrForm},
		{func(h *head) { h.used = 1<<32 - 1 }, api.ErrForm},
		{func(h *head) { h.start = 7 }, api.ErrForm},
		{func(h *head) { h.n = 9 }, api.ErrForm},
	} {
		d, _ := disk.New(9, 64)
		r, err := Format(d, 0, 8)
		if err != api.OK {
			t.Fatal(err)
		}
		r.Append([]byte("one"))
		r.Append(make([]byte, 70))
		h := r.head
		c.change(&h)
		if err := r.put(h); err != api.OK {
			t.Fatal(err)
		}
		o, err := Open(d, 0, 8)
		if err != c.want || err != api.OK && o != nil {
			t.Errorf("%d: %v", i, err)
		}
	}
}
