package frame_test

import (
	"bytes"
	"hash/crc32"
	"math/rand"
	"testing"

	"docket/frame"
)

// bitByBit is the CRC in the chapter's own words.
func bitByBit(b []byte) uint32 {
	register := uint32(0xFFFFFFFF)
	for _, c := range b {
		register ^= uint32(c)
		for range 8 {
			fell := register & 1
			register >>= 1
			if fell == 1 {
				register ^= 0xEDB88320
			}
		}
	}
	return ^register
}

func sums(t *testing.T, b []byte) {
	t.Helper()
	got := frame.CRC(b)
	if got != bitByBit(b) || got != crc32.ChecksumIEEE(b) {
		t.Errorf("CRC of %d bytes %.20v: %08X, want %08X", len(b), b, got, bitByBit(b))
	}
}

func TestP4_1CRC(t *testing.T) {
	sums(t, nil)
	sums(t, []byte{})
	for c := range 256 {
		sums(t, []byte{byte(c)})
		sums(t, []byte{byte(c), 0})
		sums(t, []byte{255, 255, 255, 255, byte(c)})
	}
	r := rand.New(rand.NewSource(1))
	for size := range 300 {
		b := make([]byte, size)
		sums(t, b)
		r.Read(b)
		sums(t, b)
		sums(t, bytes.Repeat([]byte{255}, size))
	}
	b := make([]byte, 1<<20+3)
	r.Read(b)
	sums(t, b)
}

func TestP4_1CRCChangesNothing(t *testing.T) {
	b, whole := roomy([]byte("case 12"))
	frame.CRC(b)
	if string(whole) != "case 12GHIJK" {
		t.Errorf("the bytes or their spare room were changed: %q", whole)
	}
	if frame.CRC(b) != frame.CRC(bytes.Clone(b)) || frame.CRC(b) == frame.CRC(whole) {
		t.Errorf("the CRC does not hang on the bytes alone")
	}
}
