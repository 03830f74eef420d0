package frame_test

import (
	"bytes"
	"encoding/binary"
	"hash/crc32"
	"math"
	"math/rand"
	"strings"
	"testing"

	"docket/api"
	"docket/frame"
)

// frameOf lays a record's frame down as the chapter's words say, with the library's CRC.
func frameOf(n int, p []byte) []byte {
	b := opening(len(p))
	b = binary.BigEndian.AppendUint32(b, crc32.ChecksumIEEE(b))
	b = append(b, p...)
	return binary.BigEndian.AppendUint32(b, secondCRC(n, p))
}

// opening is what the first CRC is of.
func opening(length int) []byte {
	return binary.BigEndian.AppendUint32([]byte{209}, uint32(length))
}

func secondCRC(n int, p []byte) uint32 {
	return crc32.ChecksumIEEE(append(binary.BigEndian.AppendUint64(nil, uint64(n)), p...))
}

// told is what Unpack is to answer: it lays down every frame of the number that b may begin with, or be a beginning of.
func told(n int, b []byte) ([]byte, int, api.Errno) {
	if n < 0 || n > 1<<40-1 {
		return nil, 0, api.ErrArg
	}
	if len(b) < 5 {
		first := [5]byte{209}
		for length := range uint32(65536 + 1) {
			binary.BigEndian.PutUint32(first[1:], length)
			if bytes.HasPrefix(first[:], b) {
				return nil, 0, api.ErrTorn
			}
		}
		return nil, 0, api.ErrSum
	}
	length := binary.BigEndian.Uint32(b[1:])
	if length > 65536 {
		return nil, 0, api.ErrSum
	}
	p := make([]byte, length)
	copy(p, b[min(len(b), 9):]) // what is not there may be anything: zeros
	f := frameOf(n, p)
	switch {
	case bytes.HasPrefix(b, f):
		return p, len(f), api.OK
	case bytes.HasPrefix(f, b):
		return nil, 0, api.ErrTorn
	}
	return nil, 0, api.ErrSum
}

// unpacks holds Unpack against told, and tells the number of the refusal.
func unpacks(t *testing.T, n int, b []byte) api.Errno {
	t.Helper()
	wantP, wantSize, want := told(n, b)
	p, size, why := frame.Unpack(n, b)
	if why != want || size != wantSize || !bytes.Equal(p, wantP) {
		t.Errorf("Unpack(%d, %d bytes %.40v): %d bytes, %d, %v; want %d bytes, %d, %v", n, len(b), b, len(p), size, why, len(wantP), wantSize, want)
	}
	return why
}

// refused looks whether a call of Unpack is refused with a number.
func refused(t *testing.T, what string, n int, b []byte, want api.Errno) {
	t.Helper()
	if why := unpacks(t, n, b); why != want {
		t.Errorf("%s: %v, want %v", what, why, want)
	}
}

func pack(t *testing.T, n int, p string) []byte {
	t.Helper()
	b, why := frame.Pack(n, []byte(p))
	if why != api.OK {
		t.Fatalf("Pack(%d, %d bytes): %v", n, len(p), why)
	}
	return b
}

// row packs records one behind the other, the first with the number n.
func row(t *testing.T, n int, records ...string) []byte {
	t.Helper()
	var b []byte
	for i, p := range records {
		b = append(b, pack(t, n+i, p)...)
	}
	return b
}

// anyRecords draws short records, some of them empty.
func anyRecords(r *rand.Rand) []string {
	l := make([]string, r.Intn(6))
	for i := range l {
		p := make([]byte, r.Intn(20)*r.Intn(2))
		r.Read(p)
		l[i] = string(p)
	}
	return l
}

// anyNumber draws a number that a record may have, often one at an edge.
func anyNumber(r *rand.Rand) int {
	switch r.Intn(4) {
	case 0:
		return r.Intn(3)
	case 1:
		return 1<<40 - 1 - r.Intn(3)
	case 2:
		return 1<<(8*(1+r.Intn(4))) - 1 + r.Intn(2)
	}
	return r.Intn(1 << 40)
}

// anyFirst draws a number with which a row of anyRecords may begin.
func anyFirst(r *rand.Rand) int { return min(anyNumber(r), 1<<40-6) }

// wrongNumbers are numbers that no record may have.
var wrongNumbers = []int{-1, -2, math.MinInt, math.MinInt + 1, 1 << 40, 1<<40 + 1, math.MaxInt}

// with tells b with more bytes behind it.
func with(b []byte, more ...byte) []byte { return append(bytes.Clone(b), more...) }

// roomy tells b with spare room behind it, and the whole of it.
func roomy(b []byte) ([]byte, []byte) {
	whole := with(b, 71, 72, 73, 74, 75)
	return whole[:len(b)], whole
}

func TestConstants(t *testing.T) {
	if frame.Extra != 13 || frame.Most != 65549 {
		t.Errorf("Extra %d, Most %d", frame.Extra, frame.Most)
	}
}

func TestP4_2PackLaysTheFrame(t *testing.T) {
	r := rand.New(rand.NewSource(2))
	for _, size := range []int{0, 1, 2, 13, 255, 256, 257, 4096, 65535, 65536} {
		p := make([]byte, size)
		r.Read(p)
		for _, n := range []int{0, 1, 255, 256, 1<<32 - 1, 1 << 32, 1<<40 - 1} {
			b, why := frame.Pack(n, p)
			if why != api.OK || !bytes.Equal(b, frameOf(n, p)) || len(b) != size+13 {
				t.Errorf("Pack(%d, %d bytes): %d bytes %.20v, %v", n, size, len(b), b, why)
			}
		}
	}
	for range 500 {
		n, p := anyNumber(r), make([]byte, r.Intn(60))
		r.Read(p)
		if b, why := frame.Pack(n, p); why != api.OK || !bytes.Equal(b, frameOf(n, p)) {
			t.Errorf("Pack(%d, %v): %v, %v", n, p, b, why)
		}
	}
}

func TestP4_2PackRefuses(t *testing.T) {
	for _, size := range []int{0, 1, 65536, 65537, 65538, 1 << 20} {
		want := api.OK
		if size > 65536 {
			want = api.ErrLong
		}
		for n, why := range map[int]api.Errno{0: want, 7: want, 1<<40 - 1: want} {
			if b, got := frame.Pack(n, make([]byte, size)); got != why || why != api.OK && b != nil {
				t.Errorf("Pack(%d, %d bytes): %d bytes, %v, want %v", n, size, len(b), got, why)
			}
		}
		for _, n := range wrongNumbers {
			if b, got := frame.Pack(n, make([]byte, size)); got != api.ErrArg || b != nil {
				t.Errorf("Pack(%d, %d bytes): %d bytes, %v, want ErrArg ahead of all else", n, size, len(b), got)
			}
		}
	}
	if a, b := pack(t, 3, ""), frameOf(3, nil); !bytes.Equal(a, b) {
		t.Errorf("a nil record is not an empty one")
	}
}

func TestP4_2PackKeepsAndChangesNothing(t *testing.T) {
	p, whole := roomy([]byte("case 12"))
	b, _ := frame.Pack(9, p)
	if string(whole) != "case 12GHIJK" {
		t.Errorf("the record or its spare room was changed: %q", whole)
	}
	again, _ := frame.Pack(9, p)
	clear(b[:cap(b)])
	clear(whole)
	if !bytes.Equal(again, frameOf(9, []byte("case 12"))) {
		t.Errorf("an answer shares memory with the record or with another answer: %v", again)
	}
}

func TestP4_6WhatIsPackedIsUnpacked(t *testing.T) {
	r := rand.New(rand.NewSource(6))
	check := func(n int, p []byte, behind []byte) {
		t.Helper()
		b, why := frame.Pack(n, p)
		if why != api.OK {
			t.Fatalf("Pack(%d, %d bytes): %v", n, len(p), why)
		}
		got, size, why := frame.Unpack(n, with(b, behind...))
		if why != api.OK || size != len(p)+13 || !bytes.Equal(got, p) {
			t.Fatalf("Unpack(%d) of a record of %d bytes with %d behind it: %d bytes, %d, %v", n, len(p), len(behind), len(got), size, why)
		}
	}
	for range 2000 {
		p, behind := make([]byte, r.Intn(40)), make([]byte, r.Intn(30))
		r.Read(p)
		r.Read(behind)
		n := anyNumber(r)
		check(n, p, nil)
		check(n, p, behind)
		check(n, p, frameOf(n, p))
	}
	for _, size := range []int{65535, 65536} {
		check(1<<40-1, bytes.Repeat([]byte{209}, size), []byte{209, 0})
	}
}

// Bytes near to frames are handed to Unpack: what it takes is what Pack makes of its answer.
func TestP4_6WhatIsUnpackedIsPacked(t *testing.T) {
	r := rand.New(rand.NewSource(66))
	taken := 0
	for range 20000 {
		n := anyFirst(r)
		b := row(t, n, anyRecords(r)...)
		if len(b) > 0 {
			b[r.Intn(len(b))] ^= byte(r.Intn(2)) << r.Intn(8)
		}
		if unpacks(t, n, b) != api.OK {
			continue
		}
		taken++
		p, size, _ := frame.Unpack(n, b)
		if again, why := frame.Pack(n, p); why != api.OK || !bytes.Equal(again, b[:size]) {
			t.Fatalf("a second spelling: %v is taken, and packed as %v, %v", b[:size], again, why)
		}
	}
	if taken < 5000 {
		t.Errorf("%d were taken: too few to show anything", taken)
	}
}

func TestP4_8ANumberTakesItsOwnFrames(t *testing.T) {
	r := rand.New(rand.NewSource(8))
	for range 3000 {
		p := strings.Repeat("c", r.Intn(9))
		n, m := anyNumber(r), anyNumber(r)
		_, _, why := frame.Unpack(m, pack(t, n, p))
		if same := secondCRC(n, []byte(p)) == secondCRC(m, []byte(p)); same != (why == api.OK) || !same && why != api.ErrSum {
			t.Errorf("the frame %d of %q, unpacked with %d: %v", n, p, m, why)
		}
	}
	f := pack(t, 1<<20, "oak")
	for m := range 1 << 16 {
		if _, _, why := frame.Unpack(m, f); why != api.ErrSum {
			t.Errorf("the frame %d, unpacked with %d: %v", 1<<20, m, why)
		}
	}
}

// Two numbers whose bits differ by the CRC's polynomial, moved by some places, have the same second CRC.
func TestP4_8TwoNumbersOfOneCRC(t *testing.T) {
	const polynomial = 1<<32 | 0x04C11DB7
	for moved := range 8 {
		apart := 0
		for i := range 33 { // the highest power is summed first; of each byte the lowest bit is
			if polynomial>>(32-i)&1 == 1 {
				at := moved + i
				apart |= 1 << (32 - at/8*8 + at%8)
			}
		}
		for _, n := range []int{0, 5, 1<<40 - 1} {
			m := n ^ apart
			if m == n || m < 0 || m >= 1<<40 || secondCRC(n, nil) != secondCRC(m, nil) {
				t.Fatalf("%d and %d are no such numbers", n, m)
			}
			p, size, why := frame.Unpack(m, pack(t, n, "case 12"))
			if string(p) != "case 12" || size != 20 || why != api.OK {
				t.Errorf("the frame %d, unpacked with %d: %q, %d, %v", n, m, p, size, why)
			}
		}
	}
}
