// Package carry takes objects over into a new space, one by one: what
// collecting at once and collecting step by step have in common.
package carry

import (
	"loam/api"
	"loam/head"
	"loam/mem"
	"loam/obj"
	"loam/space"
)

const none = -1 // the place of no object

// Carry takes objects over. Where one went is held in its old header.
type Carry struct {
	from *space.Space // a copy of the old space, as headers in it are changed
	to   *space.Space
}

// New begins with an empty space of so many words. The errors are those of chapter 21, but for ErrFull.
func New(s *space.Space, roots []int, words int) (*Carry, api.Errno) {
	m, err := mem.New(words)
	if err != api.OK {
		return nil, err
	}
	if err := check(s, roots); err != api.OK {
		return nil, err
	}
	to, err := space.New(m, 0, words)
	if err != api.OK {
		return nil, err
	}
	return &Carry{from: s.Apart(), to: to}, api.OK
}

func check(s *space.Space, roots []int) api.Errno {
	if s == nil {
		return api.ErrArg
	}
	if err := obj.Well(s); err != api.OK {
		return api.ErrForm
	}
	l, err := s.Objects()
	if err != api.OK {
		return err
	}
	known := map[int]struct{}{none: {}}
	for _, at := range l {
		known[at] = struct{}{}
	}
	for _, r := range roots {
		if _, ok := known[r]; !ok {
			return api.ErrArg
		}
	}
	return api.OK
}

// Take copies the object at an old place, unless it was, and tells its new place. Of no object it tells -1.
func (c *Carry) Take(at int) (int, api.Errno) {
	if at == none {
		return none, api.OK
	}
	h, err := c.from.Head(at)
	if err != api.OK {
		return 0, err
	}
	if h.Moved {
		return h.To, api.OK
	}
	to, err := c.to.Alloc(h)
	if err != api.OK {
		return 0, err
	}
	for i := 1; i < head.Size(h); i++ {
		w, err := c.from.Get(at + i)
		if err != api.OK {
			return 0, err
		}
		if err := c.to.Set(to+i, w); err != api.OK {
			return 0, err
		}
	}
	gone, err := head.Pack(head.Head{Moved: true, To: to})
	if err != api.OK {
		return 0, err
	}
	return to, c.from.Set(at, gone)
}

// Scan takes over what the object at a new place leads to, and tells where the next one stands.
func (c *Carry) Scan(at int) (int, api.Errno) {
	h, err := c.to.Head(at)
	if err != api.OK {
		return 0, err
	}
	for i := range h.Ptrs {
		// The word is the old place's still, so it is none of the new space's pointers.
		w, err := c.to.Get(at + 1 + i)
		if err != api.OK {
			return 0, err
		}
		to, err := c.Take(int(w) - 1)
		if err != api.OK {
			return 0, err
		}
		if err := obj.SetPtr(c.to, at, i, to); err != api.OK {
			return 0, err
		}
	}
	return at + head.Size(h), api.OK
}

// Top tells where the next object that is copied will stand.
func (c *Carry) Top() int { return c.to.Top }

// Space tells the new space as it is now, apart.
func (c *Carry) Space() *space.Space { return c.to.Apart() }
