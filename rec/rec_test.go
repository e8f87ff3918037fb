package rec_test

import (
	"bytes"
	"math"
	"testing"

	"loam/api"
	"loam/crc"
	"loam/rec"
)

// framed answers a length, the body, and the body's sum.
func framed(body ...byte) []byte {
	s := crc.Seal(body)
	return append([]byte{byte(len(s))}, s...)
}

func samples() []rec.Record {
	return []rec.Record{
		{Kind: rec.Page, Tx: 300, Key: rec.Key{Space: 1, No: 200}, Data: []byte{5, 6}},
		{Kind: rec.Page},
		{Kind: rec.Page, Key: rec.Key{Space: 0, No: 65535}, Data: bytes.Repeat([]byte{9}, api.MaxData)},
		{Kind: rec.Commit, Tx: math.MaxUint64},
		{Kind: rec.Note, Tx: 1, Data: []byte("note")},
	}
}

func TestEncodeBytes(t *testing.T) { // P801
	for i, c := range []struct {
		r    rec.Record
		want []byte
	}{
		{samples()[0], framed(1, 0xac, 2, 1, 0xc8, 1, 2, 5, 6)},
		{rec.Record{Kind: rec.Commit, Tx: 7}, framed(2, 7, 0)},
		{rec.Record{Kind: rec.Note, Tx: 7, Data: []byte{1}}, framed(3, 7, 1, 1)},
	} {
		if b, err := rec.Encode(c.r); err != api.OK || !bytes.Equal(b, c.want) {
			t.Errorf("%d: %x, %v", i, b, err)
		}
	}
}

func TestEncodeRefuses(t *testing.T) { // P801, P6
	long := make([]byte, api.MaxData+1)
	for i, c := range []struct {
		r    rec.Record
		want api.Errno
	}{
		{rec.Record{}, api.ErrArg}, {rec.Record{Kind: 4}, api.ErrArg}, {rec.Record{Kind: -1}, api.ErrArg}, {rec.Record{Kind: math.MinInt, Data: long}, api.ErrArg},
		{rec.Record{Kind: rec.Commit, Key: rec.Key{No: 1}}, api.ErrArg}, {rec.Record{Kind: rec.Note, Key: rec.Key{Space: 1}}, api.ErrArg},
		{rec.Record{Kind: rec.Page, Key: rec.Key{Space: 2}}, api.ErrArg}, {rec.Record{Kind: rec.Page, Key: rec.Key{Space: -1}}, api.ErrArg},
		{rec.Record{Kind: rec.Page, Key: rec.Key{No: 65536}}, api.ErrArg}, {rec.Record{Kind: rec.Page, Key: rec.Key{No: -1}}, api.ErrArg},
		{rec.Record{Kind: rec.Page, Data: long}, api.ErrLong}, {rec.Record{Kind: rec.Note, Data: long}, api.ErrLong},
	} {
		if b, err := rec.Encode(c.r); b != nil || err != c.want {
			t.Errorf("%d: %x, %v", i, b, err)
		}
	}
}

func TestDecodeIsBack(t *testing.T) { // P801
	for i, r := range samples() {
		b, err := rec.Encode(r)
		if err != api.OK {
			t.Fatal(err)
		}
		x, n, err := rec.Decode(append(bytes.Clone(b), 1, 2, 3))
		if err != api.OK || n != len(b) || !rec.Same(x, r) {
			t.Errorf("%d: %v, %d, %v", i, x, n, err)
		}
		for k := range b {
			if x, n, err := rec.Decode(b[:k]); err != api.ErrLong || n != 0 || !rec.Same(x, rec.Record{}) {
				t.Fatalf("%d, cut at %d: %d, %v", i, k, n, err)
			}
		}
	}
}

func TestDecodeRefuses(t *testing.T) { // P801, P6
	for i, c := range []struct {
		b    []byte
		want api.Errno
	}{
		{[]byte{0x80, 0}, api.ErrForm}, {bytes.Repeat([]byte{0xff}, 12), api.ErrForm}, // of the length
		{[]byte{0xff, 0xff, 0xff, 0xff, 0xff, 0xff, 0xff, 0xff, 0xff, 1, 5}, api.ErrLong},
		{[]byte{0}, api.ErrForm}, {[]byte{3, 1, 2, 3}, api.ErrForm}, {[]byte{4, 0, 0, 0, 0}, api.ErrForm},
		{framed(0, 1, 0), api.ErrForm}, {framed(4, 1, 0), api.ErrForm}, // no kind
		{framed(0x81, 0, 1, 0), api.ErrForm},                        // a byte too many
		{framed(1, 1, 2, 0, 0), api.ErrForm},                        // no such space
		{framed(1, 1, 0, 0x80, 0x80, 4, 0), api.ErrForm},            // No 65536
		{framed(2, 1, 0, 0), api.ErrForm},                           // more behind
		{framed(2, 1, 5, 1), api.ErrForm}, {framed(2), api.ErrForm}, // less than it says
		{framed(0x82, 0x80, 0x80, 0x80, 0x80, 0x80, 1, 1, 0), api.ErrForm},  // a great kind
		{append(framed(2, 1, 0)[:4], 0, 0, 0, 0), api.ErrForm},              // a wrong sum
		{append([]byte{0x87, 0}, framed(2, 1, 0)[1:]...), api.ErrForm},      // a long length
		{append([]byte{8}, append(framed(2, 1, 0)[1:], 0)...), api.ErrForm}, // a byte behind the sum
	} {
		if x, n, err := rec.Decode(c.b); err != c.want || n != 0 || !rec.Same(x, rec.Record{}) {
			t.Errorf("%d: %v, %d, %v", i, x, n, err)
		}
	}
}

func TestAll(t *testing.T) { // P801
	var b []byte
	for _, r := range samples() {
		x, _ := rec.Encode(r)
		b = append(b, x...)
	}
	l, err := rec.All(b)
	if err != api.OK || len(l) != len(samples()) {
		t.Fatal(len(l), err)
	}
	for i, r := range samples() {
		if !rec.Same(l[i], r) {
			t.Errorf("%d: %v", i, l[i])
		}
	}
	if l, err := rec.All(nil); err != api.OK || len(l) != 0 {
		t.Errorf("of nothing: %v, %v", l, err)
	}
	if l, err := rec.All(b[:len(b)-1]); err != api.ErrLong || l != nil {
		t.Errorf("cut: %v, %v", l, err)
	}
	if l, err := rec.All(append(bytes.Clone(b), 0)); err != api.ErrForm || l != nil {
		t.Errorf("with a byte behind: %v, %v", l, err)
	}
}

func TestSame(t *testing.T) { // P801, P2
	r := samples()[0]
	for i, change := range []func(r *rec.Record){
		func(r *rec.Record) { r.Kind = rec.Note }, func(r *rec.Record) { r.Tx++ }, func(r *rec.Record) { r.Key.Space = 0 },
		func(r *rec.Record) { r.Key.No++ }, func(r *rec.Record) { r.Data = []byte{5} },
	} {
		x := r
		change(&x)
		if rec.Same(x, r) {
			t.Errorf("%d: the same", i)
		}
	}
	if !rec.Same(r, samples()[0]) || !rec.Same(rec.Record{Data: []byte{}}, rec.Record{}) {
		t.Error("not the same")
	}
}
