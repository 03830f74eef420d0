package octet_test

import (
	"bytes"
	"math"
	"slices"
	"strings"
	"testing"

	"docket/api"
	"docket/octet"
)

// holds checks all that a Writer tells of its bytes.
func holds(t *testing.T, what string, w *octet.Writer, want ...byte) {
	t.Helper()
	if got := w.All(); !bytes.Equal(got, want) {
		t.Errorf("%s: All is %v, want %v", what, got, want)
	}
	if w.Len() != len(want) {
		t.Errorf("%s: Len is %d, want %d", what, w.Len(), len(want))
	}
}

// answers checks a refusal's number.
func answers(t *testing.T, what string, got, want api.Errno) {
	t.Helper()
	if got != want {
		t.Errorf("%s: %v (%d), want %v (%d)", what, got, int(got), want, int(want))
	}
}

// count and mask are numbers by names of their own.
type (
	count uint32
	mask  uint8
)

func TestP1_1Numbers(t *testing.T) {
	holds(t, "New", octet.New())
	for _, c := range []struct {
		what string
		put  func(w *octet.Writer)
		want []byte
	}{
		{"uint8 0", func(w *octet.Writer) { octet.Put(w, uint8(0)) }, []byte{0}},
		{"uint8 255", func(w *octet.Writer) { octet.Put(w, uint8(255)) }, []byte{255}},
		{"uint16 770", func(w *octet.Writer) { octet.Put(w, uint16(770)) }, []byte{3, 2}},
		{"uint16 65535", func(w *octet.Writer) { octet.Put(w, uint16(math.MaxUint16)) }, []byte{255, 255}},
		{"uint32 5", func(w *octet.Writer) { octet.Put(w, uint32(5)) }, []byte{0, 0, 0, 5}},
		{"uint32 0x80010203", func(w *octet.Writer) { octet.Put(w, uint32(0x80010203)) }, []byte{128, 1, 2, 3}},
		{"uint64 0", func(w *octet.Writer) { octet.Put(w, uint64(0)) }, make([]byte, 8)},
		{"uint64 0xf1020304_05060708", func(w *octet.Writer) { octet.Put(w, uint64(0xf102030405060708)) }, []byte{241, 2, 3, 4, 5, 6, 7, 8}},
		{"a named uint32", func(w *octet.Writer) { octet.Put(w, count(258)) }, []byte{0, 0, 1, 2}},
		{"a named uint8", func(w *octet.Writer) { octet.Put(w, mask(7)) }, []byte{7}},
	} {
		w := octet.New()
		c.put(w)
		holds(t, c.what, w, c.want...)
		c.put(w)
		holds(t, c.what+", twice", w, append(slices.Clone(c.want), c.want...)...)
	}
}

func TestP1_1PutOnNil(t *testing.T) {
	octet.Put(nil, uint8(1))
	octet.Put(nil, uint16(1))
	octet.Put(nil, uint32(1))
	octet.Put(nil, uint64(1))
}

func TestP1_1FlagsDigestsRaw(t *testing.T) {
	w := octet.New()
	w.Flag(true)
	w.Flag(false)
	w.Flag(true)
	holds(t, "flags", w, 1, 0, 1)
	w.Raw()
	w.Raw(nil)
	w.Raw([]byte{}, nil)
	w.Digests()
	holds(t, "no parts", w, 1, 0, 1)
	w.Raw([]byte{9, 8}, nil, []byte{7}, []byte{6, 5})
	holds(t, "raw parts in turn", w, 1, 0, 1, 9, 8, 7, 6, 5)

	var a, b api.Digest
	for i := range a {
		a[i], b[i] = byte(i), byte(100+i)
	}
	v := octet.New()
	octet.Put(v, uint8(77))
	v.Digests(a, b)
	v.Digests(a)
	holds(t, "digests in turn", v, slices.Concat([]byte{77}, a[:], b[:], a[:])...)
}

func TestP1_2Text(t *testing.T) {
	long := strings.Repeat("x", 65536)
	for _, c := range []struct {
		s    string
		most int
		want api.Errno
	}{
		{"", 0, api.OK}, {"", -1, api.OK}, {"", math.MinInt, api.OK}, {"", math.MaxInt, api.OK},
		{"o", 0, api.ErrLong}, {"o", -1, api.ErrLong}, {"o", math.MinInt, api.ErrLong}, {"o", 1, api.OK},
		{"oak", 2, api.ErrLong}, {"oak", 3, api.OK}, {"oak", 4, api.OK}, {"\x00\xff", 2, api.OK},
		{long[:65535], 65534, api.ErrLong}, {long[:65535], 65535, api.OK}, {long[:65535], math.MaxInt, api.OK},
		{long, 65535, api.ErrLong}, {long, 65536, api.ErrLong}, {long, math.MaxInt, api.ErrLong},
	} {
		w := octet.New()
		octet.Put(w, uint8(5))
		answers(t, "Text", w.Text(c.s, c.most), c.want)
		want := []byte{5}
		if c.want == api.OK {
			want = append(append(want, byte(len(c.s)>>8), byte(len(c.s))), c.s...)
		}
		w.Flag(true)
		holds(t, "Text", w, append(want, 1)...)
	}
}

func TestP1_2Bytes(t *testing.T) {
	long := make([]byte, 65536)
	for _, c := range []struct {
		p    []byte
		most int
		want api.Errno
	}{
		{nil, 0, api.OK}, {[]byte{}, -1, api.OK}, {nil, math.MinInt, api.OK},
		{[]byte{1}, 0, api.ErrLong}, {[]byte{1}, -9, api.ErrLong}, {[]byte{1}, 1, api.OK},
		{[]byte{1, 2}, 1, api.ErrLong}, {[]byte{1, 2}, 2, api.OK}, {[]byte{1, 2}, math.MaxInt, api.OK},
		{long, 65535, api.ErrLong}, {long, 65536, api.OK}, {long, math.MaxInt, api.OK},
	} {
		w := octet.New()
		octet.Put(w, uint8(5))
		answers(t, "Bytes", w.Bytes(c.p, c.most), c.want)
		want := []byte{5}
		if c.want == api.OK {
			n := len(c.p)
			want = append(append(want, byte(n>>24), byte(n>>16), byte(n>>8), byte(n)), c.p...)
		}
		w.Flag(true)
		holds(t, "Bytes", w, append(want, 1)...)
	}
}

// The room is asked for and never touched, so the machine lays nothing under it.
func TestP1_2BytesAboveTheirField(t *testing.T) {
	w := octet.New()
	answers(t, "2^31 bytes", w.Bytes(make([]byte, 1<<31), math.MaxInt), api.ErrLong)
	holds(t, "2^31 bytes", w)
}

// rising answers n texts, each above the one ahead.
func rising(n int) []string {
	l := make([]string, n)
	for i := range l {
		l[i] = string([]byte{byte(i >> 16), byte(i >> 8), byte(i)})
	}
	return l
}

// textsBytes is the form of a row of texts, written out by hand.
func textsBytes(l []string) []byte {
	b := []byte{byte(len(l) >> 8), byte(len(l))}
	for _, s := range l {
		b = append(append(b, byte(len(s)>>8), byte(len(s))), s...)
	}
	return b
}

func TestP1_2Texts(t *testing.T) {
	long := strings.Repeat("x", 65536)
	for _, c := range []struct {
		what       string
		l          []string
		most, each int
		want       api.Errno
	}{
		{"none", nil, 0, 0, api.OK},
		{"none, bounds below 0", []string{}, -1, -1, api.OK},
		{"the empty text alone", []string{""}, 1, 0, api.OK},
		{"the empty text, each below 0", []string{""}, 1, -5, api.OK},
		{"the empty text first", []string{"", "a"}, 2, 1, api.OK},
		{"the empty text twice", []string{"", ""}, 2, 1, api.ErrForm},
		{"one, of no texts", []string{""}, 0, 9, api.ErrMany},
		{"one, of below 0", []string{""}, -1, 9, api.ErrMany},
		{"at the bound", []string{"a", "b"}, 2, 1, api.OK},
		{"one past it", []string{"a", "b", "c"}, 2, 1, api.ErrMany},
		{"a beginning ahead", []string{"bo", "bolt"}, 2, 4, api.OK},
		{"a beginning behind", []string{"bolt", "bo"}, 2, 4, api.ErrForm},
		{"one twice", []string{"bo", "bo"}, 9, 9, api.ErrForm},
		{"bytes, not letters", []string{"Z", "a", "\x7f", "\x80", "\xff"}, 5, 1, api.OK},
		{"bytes have no sign", []string{"\x80", "\x7f"}, 5, 1, api.ErrForm},
		{"many ahead of long", []string{"bolt", "a"}, 1, 3, api.ErrMany},
		{"long ahead of the order", []string{"bolt", "a"}, 2, 3, api.ErrLong},
		{"above the first, not the one ahead", []string{"a", "c", "b"}, 3, 1, api.ErrForm},
		{"long and not above: long", []string{"b", "aaaa"}, 2, 3, api.ErrLong},
		{"the order of an earlier one", []string{"b", "a", "bolt"}, 3, 3, api.ErrForm},
		{"the length of an earlier one", []string{"a", "bolt", "a"}, 3, 3, api.ErrLong},
		{"each below 0", []string{"", "a"}, 2, -1, api.ErrLong},
		{"a text at its field's end", []string{long[:65535]}, 1, math.MaxInt, api.OK},
		{"a text past it", []string{long}, 1, math.MaxInt, api.ErrLong},
		{"texts at their field's end", rising(65535), math.MaxInt, 3, api.OK},
		{"texts past it", rising(65536), math.MaxInt, 3, api.ErrMany},
		{"texts past most, below the field's end", rising(300), 299, 3, api.ErrMany},
	} {
		w := octet.New()
		octet.Put(w, uint8(5))
		was := slices.Clone(c.l)
		answers(t, "Texts: "+c.what, w.Texts(c.l, c.most, c.each), c.want)
		if !slices.Equal(was, c.l) {
			t.Errorf("Texts: %s: the list that was handed in has changed", c.what)
		}
		want := []byte{5}
		if c.want == api.OK {
			want = append(want, textsBytes(c.l)...)
		}
		w.Flag(true)
		holds(t, "Texts: "+c.what, w, append(want, 1)...)
	}
}

func TestP1_3WhatIsHandedInIsNotKept(t *testing.T) {
	w := octet.New()
	raw, p, l, ds := []byte{1, 2}, []byte{3}, []string{"a"}, []api.Digest{{4}}
	w.Raw(raw)
	w.Bytes(p, 1)
	w.Texts(l, 1, 1)
	w.Digests(ds...)
	was := w.All()
	raw[0], p[0], l[0], ds[0] = 99, 99, "z", api.Digest{99}
	holds(t, "behind a change of what was handed in", w, was...)
}

func TestP1_3AllIsNewMemory(t *testing.T) {
	w := octet.New()
	for i := range 100 {
		first := w.All()
		kept := slices.Clone(first)
		second := w.All()
		for j := range second[:cap(second)] {
			second[:cap(second)][j] = 77
		}
		holds(t, "behind a change of an answer and its spare room", w, kept...)
		octet.Put(w, uint8(i))
		if !bytes.Equal(first, kept) {
			t.Fatalf("an earlier All changed by what was laid behind: %v, was %v", first, kept)
		}
		if w.Len() != i+1 {
			t.Fatalf("Len is %d, want %d", w.Len(), i+1)
		}
	}
}
