package ring

import (
	"bytes"

	"loam/api"
	"loam/bits"
)

const (
	magic      = 0x676e69726d616f6c // loamring, the lowest byte first
	mostNumber = 1 << 62            // the first record's number is below
	word       = 8                  // bytes of a word
)

// head says which records are there. It takes one sector, so it is written whole or not at all, and no sum is needed.
type head struct {
	size  int    // bytes of a sector
	n     int    // sectors of the log
	first uint64 // number of the first record
	count int    // how many records
	start int    // where the first one begins, in sectors behind the head
	used  int    // sectors of all records
}

// words tells the numbers that a head's sector begins with.
func (h head) words() [6]uint64 {
	return [6]uint64{magic, uint64(h.size)<<32 | uint64(h.n), h.first, uint64(h.count), uint64(h.start), uint64(h.used)}
}

// sector tells the bytes of h.
func (h head) sector() []byte {
	s := make([]byte, h.size)
	for i, w := range h.words() {
		for k := range word {
			s[i*word+k] = byte(w >> (8 * k))
		}
	}
	return s
}

// decode answers the head of a log of n sectors.
func decode(s []byte, n int) (head, api.Errno) {
	var w [6]uint64
	for i := range w {
		w[i], _ = bits.Get(s, i*word, word)
	}
	h := head{
		size:  len(s),
		n:     n,
		first: w[2],
		count: int(bits.Field(w[3], 0, 32)),
		start: int(bits.Field(w[4], 0, 32)),
		used:  int(bits.Field(w[5], 0, 32)),
	}
	if !h.well() || !bytes.Equal(h.sector(), s) {
		return head{}, api.ErrForm
	}
	return h, api.OK
}

// well tells whether what h says may be.
func (h head) well() bool {
	return h.first >= 1 && h.first < mostNumber && h.count <= h.used && h.used <= h.room() && h.start < h.room()
}

// room tells how many sectors there are for records.
func (h head) room() int { return h.n - 1 }
