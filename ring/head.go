package ring

import (
	"bytes"

	"loam/api"
	"loam/bits"
	"loam/disk"
)

const (
	magic     = 0x676e69726d616f6c // loamring, the lowest byte first
	heads     = 2                  // sectors ahead of the records: each has a head
	mostEpoch = 1 << 62            // no epoch and no record's number goes on from there
	word      = 8                  // bytes of a word
)

// head says which records are there. It takes one sector, so it is written whole or not at all, and no sum is needed.
type head struct {
	epoch uint64
	size  int    // bytes of a sector
	n     int    // sectors of the log
	first uint64 // number of the first record
	count int    // how many records
	start int    // where the first one begins, in sectors behind the heads
	used  int    // sectors of all records
}

// words tells the numbers that a head's sector begins with.
func (h head) words() [7]uint64 {
	return [7]uint64{magic, h.epoch, uint64(h.size)<<32 | uint64(h.n), h.first, uint64(h.count), uint64(h.start), uint64(h.used)}
}

// sector tells the bytes of h.
func (h head) sector() []byte {
	s := make([]byte, h.size)
	for i, w := range h.words() {
		for k := range word {
			s[i*word+k] = byte(w >> (8 * k))
		}
	}
	return s
}

// slot tells which of the two sectors an epoch's head goes to.
func slot(epoch uint64) int { return int(epoch & 1) }

// decode answers the head of a sector; false: it has none.
func decode(s []byte) (head, bool) {
	var w [7]uint64
	for i := range w {
		w[i], _ = bits.Get(s, i*word, word)
	}
	h := head{
		epoch: w[1],
		size:  int(bits.Field(w[2], 32, 32)),
		n:     int(bits.Field(w[2], 0, 32)),
		first: w[3],
		count: int(bits.Field(w[4], 0, 32)),
		start: int(bits.Field(w[5], 0, 32)),
		used:  int(bits.Field(w[6], 0, 32)),
	}
	if h.size != len(s) || h.epoch >= mostEpoch || !bytes.Equal(h.sector(), s) {
		return head{}, false
	}
	return h, true
}

// newest answers the newer head of the two at a place, be its log of another length; false: there is none.
func newest(d *disk.Disk, at int) (head, bool, api.Errno) {
	var out head
	found := false
	for i := range heads {
		s, err := d.Read(at + i)
		if err != api.OK {
			return head{}, false, err
		}
		h, ok := decode(s)
		if ok && slot(h.epoch) == i && (!found || h.epoch > out.epoch) {
			out, found = h, true
		}
	}
	return out, found, api.OK
}

// well tells whether what h says of n sectors may be.
func (h head) well(n int) bool {
	room := n - heads
	return h.n == n && h.first >= 1 && h.first < mostEpoch && h.count <= h.used && h.used <= room && h.start < room
}
