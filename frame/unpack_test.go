package frame_test

import (
	"bytes"
	"encoding/binary"
	"hash/crc32"
	"math/rand"
	"testing"

	"docket/api"
	"docket/frame"
)

func TestP4_3UnpackRefusesNumbers(t *testing.T) {
	f := pack(t, 0, "a")
	for _, n := range wrongNumbers {
		for _, b := range [][]byte{nil, {}, {208}, f[:3], f, with(f, 1)} {
			refused(t, "a number that may not be", n, b, api.ErrArg)
		}
	}
	refused(t, "the highest number", 1<<40-1, pack(t, 1<<40-1, "a"), api.OK)
}

func TestP4_3EachBeginningIsTorn(t *testing.T) {
	for _, p := range []string{"", "a", "case 12", "\xd1\x00\x00\x00\x00"} {
		for _, n := range []int{0, 7, 1<<40 - 1} {
			f := pack(t, n, p)
			for i := range f {
				refused(t, "a beginning", n, f[:i], api.ErrTorn)
			}
			refused(t, "the frame", n, f, api.OK)
		}
	}
	great := frameOf(3, bytes.Repeat([]byte("c"), 65536))
	for _, i := range []int{0, 1, 4, 5, 8, 9, 10, 40000, 65544, 65545, 65546, 65548} {
		refused(t, "a beginning of the greatest frame", 3, great[:i], api.ErrTorn)
	}
	refused(t, "the greatest frame", 3, great, api.OK)
}

// Each byte of a frame is made each other byte: the refusal is told at that byte, or, of a record's byte, at the second CRC.
func TestP4_3AWrongByteIsToldAtOnce(t *testing.T) {
	const p = "oak"
	f := pack(t, 11, p)
	for i := range f {
		for c := range 256 {
			b := bytes.Clone(f)
			b[i] = byte(c)
			for n := i; n <= len(b); n++ {
				unpacks(t, 11, b[:n])
			}
			unpacks(t, 11, with(b, f...))
			inRecord := i >= 9 && i < 9+len(p)
			if b[i] != f[i] && !inRecord && (i == 0 || i > 4) {
				refused(t, "a wrong byte", 11, b[:i+1], api.ErrSum)
			}
			if b[i] != f[i] && inRecord {
				refused(t, "a wrong byte of the record", 11, b[:9+len(p)], api.ErrTorn)
				refused(t, "a wrong byte of the record", 11, b, api.ErrSum)
			}
		}
	}
}

func TestP4_3TheLengthIsToldAtOnce(t *testing.T) {
	for _, head := range [][]byte{{209}, {209, 0}, {209, 1}, {209, 0, 0}, {209, 0, 1}, {209, 0, 2}, {209, 0, 0, 255}, {209, 0, 1, 0}, {209, 0, 1, 1}} {
		for c := range 256 {
			unpacks(t, 0, with(head, byte(c)))
		}
	}
	for length, want := range map[uint32]api.Errno{0: api.ErrTorn, 65535: api.ErrTorn, 65536: api.ErrTorn, 65537: api.ErrSum, 65792: api.ErrSum, 1 << 17: api.ErrSum, 1 << 24: api.ErrSum, 1 << 31: api.ErrSum, 1<<32 - 1: api.ErrSum} {
		b := opening(int(length))
		refused(t, "a length", 0, b, want)
		refused(t, "a length with its CRC", 0, binary.BigEndian.AppendUint32(b, crc32.ChecksumIEEE(b)), want)
	}
	long := make([]byte, 65537)
	refused(t, "a whole frame of a record that is too long", 0, frameOf(0, long), api.ErrSum)
}

func TestP4_3BytesBehindAreNotLookedAt(t *testing.T) {
	f := pack(t, 4, "bolt")
	for _, behind := range [][]byte{{0}, {209}, {208}, f, f[:6], make([]byte, 70000)} {
		refused(t, "bytes behind", 4, with(f, behind...), api.OK)
	}
	refused(t, "no frame, and bytes behind", 4, with([]byte{208}, f...), api.ErrSum)
	refused(t, "a first CRC that is not right, and bytes behind", 4, with(f[:8], with([]byte{f[8] ^ 1}, f...)...), api.ErrSum)
}

func TestP4_3UnpackKeepsAndChangesNothing(t *testing.T) {
	f := pack(t, 4, "bolt")
	b, whole := roomy(f)
	p, _, _ := frame.Unpack(4, b)
	q, _, _ := frame.Unpack(4, b)
	if !bytes.Equal(whole, with(f, []byte("GHIJK")...)) {
		t.Errorf("the bytes or their spare room were changed: %v", whole)
	}
	clear(p[:cap(p)])
	if !bytes.Equal(b, f) || string(q) != "bolt" {
		t.Errorf("an answer's memory is another's: %v, %q", b, q)
	}
	clear(whole)
	if string(q) != "bolt" {
		t.Errorf("an answer shares memory with the bytes: %q", q)
	}
}

func TestP4_3AnyBytes(t *testing.T) {
	r := rand.New(rand.NewSource(3))
	seen := map[api.Errno]int{}
	for range 5000 {
		n := anyFirst(r)
		b := row(t, n, anyRecords(r)...)
		b = with(b[:r.Intn(len(b)+1)], 209, byte(r.Intn(3)/2), byte(r.Intn(3)), byte(r.Intn(3)*127))
		if r.Intn(2) == 0 {
			b[r.Intn(len(b))] = byte(r.Intn(256))
		}
		b = b[:r.Intn(len(b)+1)]
		seen[unpacks(t, n, b)]++
		unpacks(t, n+1, b)
	}
	for _, why := range []api.Errno{api.OK, api.ErrTorn, api.ErrSum} {
		if seen[why] < 100 {
			t.Errorf("%v was told %d times: too few to show anything", why, seen[why])
		}
	}
}
