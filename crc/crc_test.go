package crc_test

import (
	"bytes"
	"hash/crc32"
	"testing"

	"loam/crc"
)

func some(n int) []byte {
	b := make([]byte, n)
	for i := range b {
		b[i] = byte(i*i*31 + i>>3)
	}
	return b
}

func TestSumIsIEEE(t *testing.T) { // P201
	if s := crc.Sum([]byte("123456789")); s != 0xcbf43926 {
		t.Errorf("%08x", s)
	}
	if s := crc.Sum(); s != 0 {
		t.Errorf("of nothing: %08x", s)
	}
	if s := crc.Sum(nil, []byte{}, nil); s != 0 {
		t.Errorf("of empty parts: %08x", s)
	}
	for n := range 600 {
		if b := some(n); crc.Sum(b) != crc32.ChecksumIEEE(b) {
			t.Fatalf("%d bytes: %08x", n, crc.Sum(b))
		}
	}
}

func TestSumOfPartsAndAdd(t *testing.T) { // P201
	b := some(40)
	want := crc.Sum(b)
	for i := range b {
		if crc.Sum(b[:i], b[i:]) != want || crc.Sum(b[:i], nil, b[i:]) != want {
			t.Errorf("parted at %d", i)
		}
		if crc.Add(crc.Sum(b[:i]), b[i:]) != want {
			t.Errorf("added at %d", i)
		}
	}
	if crc.Add(want, nil) != want || crc.Add(0, b) != want {
		t.Error("nothing added, or to nothing")
	}
}

func TestSeal(t *testing.T) { // P201, P2
	room := append([]byte("123456789"), 1, 2, 3, 4, 5)
	if s := crc.Seal(room[:9]); !bytes.Equal(s, append([]byte("123456789"), 0x26, 0x39, 0xf4, 0xcb)) {
		t.Errorf("%x", s)
	}
	if !bytes.Equal(room[9:], []byte{1, 2, 3, 4, 5}) {
		t.Error("the spare room of what was handed in was changed")
	}
	if s := crc.Seal(nil); !bytes.Equal(s, make([]byte, 4)) {
		t.Errorf("of nothing: %x", s)
	}
}

func TestRight(t *testing.T) { // P201
	for n := range 70 {
		s := crc.Seal(some(n))
		if !crc.Right(s) {
			t.Errorf("%d: not right", n)
		}
		for i := range s {
			s[i] ^= 0x10
			if crc.Right(s) {
				t.Errorf("%d: right with byte %d turned", n, i)
			}
			s[i] ^= 0x10
		}
	}
	for n := range 4 {
		if crc.Right(make([]byte, n)) {
			t.Errorf("%d bytes are right", n)
		}
	}
	if !crc.Right(make([]byte, 4)) {
		t.Error("four bytes 0 are Seal of nothing")
	}
}
