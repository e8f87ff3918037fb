package pheap

import (
	"math"

	"loam/api"
	"loam/bits"
	"loam/disk"
	"loam/geom"
	"loam/graph"
	"loam/image"
	"loam/key"
	"loam/rec"
	"loam/slots"
	"loam/sup"
)

const word = 8 // bytes of a word

// page tells the key of the sector in which a space's word lies, and at which of its bytes.
func page(g geom.Geom, space, i int) (rec.Key, int) {
	sector, at := geom.Word(g, space, i)
	return rec.Key{Space: space, No: sector}, at
}

// write lets words stand in a space, pending.
func write(d *disk.Disk, g geom.Geom, space int, l []uint64) api.Errno {
	pages := map[rec.Key][]byte{}
	var touched key.Set
	for i, w := range l {
		k, at := page(g, space, i)
		if touched.Add(k) > 0 {
			pages[k] = make([]byte, g.Sector)
		}
		for n := range word {
			pages[k][at+n] = byte(w >> (8 * n))
		}
	}
	for _, k := range touched.Row() {
		if err := d.Write(k.No, pages[k]); err != api.OK {
			return err
		}
	}
	return api.OK
}

// read tells the words that b speaks of.
func read(d *disk.Disk, b sup.Block) ([]uint64, api.Errno) {
	pages := map[rec.Key][]byte{}
	l := make([]uint64, b.Words)
	for i := range l {
		k, at := page(b.Geom, b.Space, i)
		if pages[k] == nil {
			s, err := d.Read(k.No)
			if err != api.OK {
				return nil, err
			}
			pages[k] = s
		}
		l[i], _ = bits.Get(pages[k], at, word)
	}
	return l, api.OK
}

// load tells the graph that b speaks of, of which no words are needed if there is nothing in it.
func load(d *disk.Disk, b sup.Block) (graph.Graph, api.Errno) {
	if b.Words == 0 {
		return graph.Graph{}, api.OK
	}
	l, err := read(d, b)
	if err != api.OK {
		return graph.Graph{}, err
	}
	g, err := image.Decode(l)
	if err != api.OK {
		return graph.Graph{}, err
	}
	g, _ = graph.Trim(g)
	return g, api.OK
}

// save lets g last, in the space that the block that counts does not speak of, and tells the block that counts then.
func save(d *disk.Disk, counts sup.Block, g graph.Graph) (sup.Block, api.Errno) {
	l, err := image.Encode(g)
	if err != api.OK {
		return sup.Block{}, err
	}
	b := sup.Block{Geom: counts.Geom, Space: 1 - counts.Space, Words: len(l)}
	if err := write(d, b.Geom, b.Space, l); err != api.OK {
		return sup.Block{}, err
	}
	if counts.Epoch == math.MaxUint64 { // no block is newer
		return instead(d, sup.Slot(counts.Epoch), b)
	}
	b.Epoch = counts.Epoch + 1
	return b, slots.Write(d, b)
}

// instead lets b count in place of the block that counts, which stands in that
// slot. The other slot goes first, as it counts behind neither; then the one
// write of b is all there is between the two.
func instead(d *disk.Disk, slot int, b sup.Block) (sup.Block, api.Errno) {
	if err := d.Write(1-slot, make([]byte, b.Geom.Sector)); err != api.OK {
		return sup.Block{}, err
	}
	b.Epoch = uint64(slot)
	return b, slots.Write(d, b)
}

// counting tells the slot of the block that counts, or 0.
func counting(d *disk.Disk) (int, api.Errno) {
	blocks, right, err := slots.Both(d)
	if err != api.OK {
		return 0, err
	}
	if right[1] && (!right[0] || sup.Newer(blocks[1], blocks[0])) {
		return 1, api.OK
	}
	return 0, api.OK
}
