package frame_test

import (
	"bytes"
	"testing"

	"docket/api"
	"docket/frame"
)

func TestExamples1To3(t *testing.T) {
	if frame.CRC([]byte("case 12")) != 0x60D7D805 || frame.CRC(nil) != 0 {
		t.Errorf("example 1: %08X, %08X", frame.CRC([]byte("case 12")), frame.CRC(nil))
	}
	want := []byte{209, 0, 0, 0, 0, 0x72, 0xB7, 0xA1, 0xF4, 0x65, 0x22, 0xDF, 0x69}
	if b, why := frame.Pack(0, nil); why != api.OK || !bytes.Equal(b, want) {
		t.Errorf("example 2: %v, %v", b, why)
	}
	if b := pack(t, 3, "ab"); len(b) != 15 {
		t.Errorf("example 3: %v", b)
	}
	for _, x := range []struct {
		n, size int
		want    api.Errno
	}{{-1, 0, api.ErrArg}, {1 << 40, 0, api.ErrArg}, {0, 65537, api.ErrLong}} {
		if b, why := frame.Pack(x.n, make([]byte, x.size)); b != nil || why != x.want {
			t.Errorf("example 3: Pack(%d, %d bytes): %d bytes, %v", x.n, x.size, len(b), why)
		}
	}
}

func TestExample4(t *testing.T) {
	f, g := pack(t, 0, "a"), pack(t, 1, "b")
	turned := bytes.Clone(g[:6])
	turned[5] ^= 1
	for i, x := range []struct {
		n          int
		b          []byte
		many, size int
		why        api.Errno
	}{
		{0, with(f, g...), 2, 28, api.OK}, {0, with(f, g[:5]...), 1, 14, api.ErrTorn}, {0, with(f, turned...), 1, 14, api.ErrSum},
		{0, with(f, f...), 1, 14, api.ErrSum}, {7, nil, 0, 0, api.OK}, {-1, f, 0, 0, api.ErrArg},
	} {
		if many, size, why := frame.End(x.n, x.b); many != x.many || size != x.size || why != x.why {
			t.Errorf("example 4, the %d-th: %d, %d, %v", i, many, size, why)
		}
	}
}

func TestExamples5And6(t *testing.T) {
	for _, x := range []struct {
		b    []byte
		want api.Errno
	}{
		{[]byte{209, 0, 1}, api.ErrTorn}, {[]byte{209, 0, 2}, api.ErrSum}, {[]byte{209, 0, 1, 0, 1}, api.ErrSum},
		{[]byte{209, 0, 1, 1}, api.ErrSum}, {[]byte{208}, api.ErrSum}, {nil, api.ErrTorn},
	} {
		refused(t, "example 5", 0, x.b, x.want)
	}
	refused(t, "example 6", 1, pack(t, 0, "a"), api.ErrSum)
	goes(t, "example 6", frame.Rows(5, row(t, 5, "a", "")), 5, []string{"a", ""})
}
