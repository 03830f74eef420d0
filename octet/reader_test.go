package octet_test

import (
	"bytes"
	"math"
	"runtime"
	"slices"
	"strings"
	"testing"

	"docket/api"
	"docket/octet"
)

// stands checks where a Reader is, and that asking it changes nothing.
func stands(t *testing.T, what string, r *octet.Reader, left int, why api.Errno) {
	t.Helper()
	done := why
	if why == api.OK && left > 0 {
		done = api.ErrForm
	}
	for range 2 {
		if r.Left() != left || r.Why() != why || r.Done() != done {
			t.Errorf("%s: Left %d, Why %v, Done %v; want %d, %v, %v", what, r.Left(), r.Why(), r.Done(), left, why, done)
		}
	}
}

func TestP1_4TakesInTurn(t *testing.T) {
	b := slices.Concat(
		[]byte{200, 1, 2, 128, 3, 4, 5, 255, 6, 7, 8, 9, 10, 11, 12}, // numbers
		[]byte{1, 0}, // flags
		bytes.Repeat([]byte{41}, 32), bytes.Repeat([]byte{42}, 32), bytes.Repeat([]byte{43}, 32),
		[]byte{61, 62, 63},             // raw
		[]byte{0, 2, 104, 105, 0, 0},   // texts alone
		[]byte{0, 0, 0, 1, 71},         // bytes
		[]byte{0, 2, 0, 0, 0, 1, 0x80}, // texts
	)
	r := octet.Read(b)
	for i := range b {
		b[i] = 0xee // Read has copied them
	}
	left := len(b)
	step := func(what string, took int, right bool) {
		t.Helper()
		left -= took
		if !right {
			t.Errorf("%s: another answer", what)
		}
		stands(t, what, r, left, api.OK)
	}
	stands(t, "the first byte", r, left, api.OK)
	step("uint8", 1, octet.Take[uint8](r) == 200)
	step("uint16", 2, octet.Take[uint16](r) == 258)
	step("uint32, named", 4, octet.Take[count](r) == 0x80030405)
	step("uint64", 8, octet.Take[uint64](r) == 0xff060708090a0b0c)
	step("true", 1, r.Flag())
	step("false", 1, !r.Flag())
	step("a digest", 32, r.Digest() == api.Digest(bytes.Repeat([]byte{41}, 32)))
	ds := r.Digests(2)
	step("digests", 64, len(ds) == 2 && ds[0][31] == 42 && ds[1][0] == 43 && ds[1][31] == 43)
	step("no digests", 0, len(r.Digests(0)) == 0)
	step("raw", 3, bytes.Equal(r.Raw(3), []byte{61, 62, 63}))
	step("no raw", 0, len(r.Raw(0)) == 0)
	step("a text", 4, r.Text(2) == "hi")
	step("an empty text", 2, r.Text(0) == "")
	step("bytes", 5, bytes.Equal(r.Bytes(1), []byte{71}))
	step("texts", 7, slices.Equal(r.Texts(2, 1), []string{"", "\x80"}))
	answers(t, "Done", r.Done(), api.OK)
}

// Each form is read from within a greater text: so a place that goes back too far is seen.
func TestP1_5Refusals(t *testing.T) {
	u8 := func(r *octet.Reader) bool { return octet.Take[uint8](r) == 0 }
	u16 := func(r *octet.Reader) bool { return octet.Take[uint16](r) == 0 }
	u32 := func(r *octet.Reader) bool { return octet.Take[uint32](r) == 0 }
	u64 := func(r *octet.Reader) bool { return octet.Take[uint64](r) == 0 }
	flag := func(r *octet.Reader) bool { return !r.Flag() }
	digest := func(r *octet.Reader) bool { return r.Digest() == api.Digest{} }
	digests := func(n int) func(r *octet.Reader) bool {
		return func(r *octet.Reader) bool { return len(r.Digests(n)) == 0 }
	}
	raw := func(n int) func(r *octet.Reader) bool {
		return func(r *octet.Reader) bool { return len(r.Raw(n)) == 0 }
	}
	text := func(most int) func(r *octet.Reader) bool {
		return func(r *octet.Reader) bool { return r.Text(most) == "" }
	}
	byts := func(most int) func(r *octet.Reader) bool {
		return func(r *octet.Reader) bool { return len(r.Bytes(most)) == 0 }
	}
	texts := func(most, each int) func(r *octet.Reader) bool {
		return func(r *octet.Reader) bool { return len(r.Texts(most, each)) == 0 }
	}
	for _, c := range []struct {
		what string
		b    []byte
		take func(r *octet.Reader) bool // whether the answer is the zero of its type
		why  api.Errno
	}{
		{"uint8, no byte", nil, u8, api.ErrForm},
		{"uint16, one byte", []byte{1}, u16, api.ErrForm},
		{"uint32, three bytes", []byte{1, 2, 3}, u32, api.ErrForm},
		{"uint64, seven bytes", []byte{1, 2, 3, 4, 5, 6, 7}, u64, api.ErrForm},
		{"flag, no byte", nil, flag, api.ErrForm},
		{"flag 2", []byte{2, 1}, flag, api.ErrForm},
		{"flag 255", []byte{255}, flag, api.ErrForm},
		{"digest, 31 bytes", bytes.Repeat([]byte{1}, 31), digest, api.ErrForm},
		{"2 digests, 63 bytes", bytes.Repeat([]byte{1}, 63), digests(2), api.ErrForm},
		{"-1 digests", bytes.Repeat([]byte{1}, 64), digests(-1), api.ErrForm},
		{"the least number of digests", bytes.Repeat([]byte{1}, 64), digests(math.MinInt), api.ErrForm},
		{"-1 digests of no bytes", nil, digests(-1), api.ErrForm},
		{"2^59 digests", bytes.Repeat([]byte{1}, 64), digests(1 << 59), api.ErrForm},
		{"the most digests", bytes.Repeat([]byte{1}, 64), digests(math.MaxInt), api.ErrForm},
		{"raw, one past", []byte{1, 2}, raw(3), api.ErrForm},
		{"raw -1", []byte{1, 2}, raw(-1), api.ErrForm},
		{"raw, the least", []byte{1, 2}, raw(math.MinInt), api.ErrForm},
		{"raw, the most", []byte{1, 2}, raw(math.MaxInt), api.ErrForm},
		{"text, no byte", nil, text(9), api.ErrForm},
		{"text, half a length", []byte{0}, text(9), api.ErrForm},
		{"text, half a great length", []byte{255}, text(0), api.ErrForm},
		{"text, its bytes end", []byte{0, 5, 97, 98}, text(9), api.ErrForm},
		{"text at its bound, its bytes end", []byte{0, 5, 97, 98}, text(5), api.ErrForm},
		{"text above its bound, its bytes end", []byte{0, 5, 97, 98}, text(4), api.ErrLong},
		{"text above its bound, its bytes there", []byte{0, 2, 97, 98}, text(1), api.ErrLong},
		{"text above 0", []byte{0, 1, 97}, text(0), api.ErrLong},
		{"text above a bound below 0", []byte{0, 1, 97}, text(-1), api.ErrLong},
		{"the greatest text, its bytes end", []byte{255, 255, 97}, text(math.MaxInt), api.ErrForm},
		{"text 65535 above 65534", []byte{255, 255, 97}, text(65534), api.ErrLong},
		{"bytes, half a length", []byte{255, 255, 255}, byts(1), api.ErrForm},
		{"bytes end", []byte{0, 0, 0, 3, 1, 2}, byts(3), api.ErrForm},
		{"bytes end above their bound", []byte{0, 0, 0, 3, 1, 2}, byts(2), api.ErrLong},
		{"bytes above their bound", []byte{0, 0, 0, 3, 1, 2, 3}, byts(2), api.ErrLong},
		{"bytes above 0", []byte{0, 0, 0, 1, 9}, byts(0), api.ErrLong},
		{"bytes above a bound below 0", []byte{0, 0, 0, 1, 9}, byts(math.MinInt), api.ErrLong},
		{"2^31 - 1 bytes", []byte{127, 255, 255, 255, 9}, byts(math.MaxInt), api.ErrForm},
		{"2^31 - 1 bytes above 2^31 - 2", []byte{127, 255, 255, 255, 9}, byts(1<<31 - 2), api.ErrLong},
		{"2^31 bytes", []byte{128, 0, 0, 0, 9}, byts(math.MaxInt), api.ErrLong},
		{"2^32 - 1 bytes", []byte{255, 255, 255, 255, 9}, byts(math.MaxInt), api.ErrLong},
		{"texts, half a number", []byte{255}, texts(0, 0), api.ErrForm},
		{"texts above most, not there", []byte{0, 3}, texts(2, 5), api.ErrMany},
		{"texts above most, there", []byte{0, 2, 0, 0, 0, 1, 97}, texts(1, 5), api.ErrMany},
		{"texts above most ahead of long", []byte{0, 2, 0, 9}, texts(1, 5), api.ErrMany},
		{"texts above 0", []byte{0, 1, 0, 0}, texts(0, 5), api.ErrMany},
		{"texts above a bound below 0", []byte{0, 1, 0, 0}, texts(-1, 5), api.ErrMany},
		{"texts at most, not there", []byte{0, 3}, texts(3, 5), api.ErrForm},
		{"65535 texts, not there", []byte{255, 255}, texts(math.MaxInt, 5), api.ErrForm},
		{"texts, half a length", []byte{0, 1, 0}, texts(3, 5), api.ErrForm},
		{"texts, the second's length missing", []byte{0, 2, 0, 1, 97}, texts(3, 5), api.ErrForm},
		{"texts, the second's bytes end", []byte{0, 2, 0, 1, 97, 0, 2, 98}, texts(3, 5), api.ErrForm},
		{"texts, the first too long", []byte{0, 2, 0, 2, 97, 97, 0, 1, 98}, texts(3, 1), api.ErrLong},
		{"texts, the second too long, not there", []byte{0, 2, 0, 1, 98, 0, 6}, texts(3, 5), api.ErrLong},
		{"texts, the second too long and not above", []byte{0, 2, 0, 1, 98, 0, 2, 97, 97}, texts(3, 1), api.ErrLong},
		{"texts, each below 0", []byte{0, 1, 0, 1, 97}, texts(3, -1), api.ErrLong},
		{"texts, the order ahead of the third's length", []byte{0, 3, 0, 1, 98, 0, 1, 97, 0, 9}, texts(3, 1), api.ErrForm},
		{"texts that fall", []byte{0, 2, 0, 1, 98, 0, 1, 97}, texts(5, 5), api.ErrForm},
		{"a text above the first, not the one ahead", []byte{0, 3, 0, 1, 97, 0, 1, 99, 0, 1, 98}, texts(5, 5), api.ErrForm},
		{"one text twice", []byte{0, 2, 0, 1, 98, 0, 1, 98}, texts(5, 5), api.ErrForm},
		{"the empty text twice", []byte{0, 2, 0, 0, 0, 0}, texts(5, 5), api.ErrForm},
		{"the empty text behind", []byte{0, 2, 0, 1, 98, 0, 0}, texts(5, 5), api.ErrForm},
		{"a beginning behind", []byte{0, 2, 0, 2, 98, 98, 0, 1, 98}, texts(5, 5), api.ErrForm},
		{"bytes have no sign", []byte{0, 2, 0, 1, 128, 0, 1, 127}, texts(5, 5), api.ErrForm},
	} {
		r := octet.Read(append([]byte{0, 7, 1}, c.b...))
		if octet.Take[uint16](r) != 7 || !r.Flag() {
			t.Fatalf("%s: what stands ahead of it", c.what)
		}
		if !c.take(r) {
			t.Errorf("%s: an answer beside a refusal", c.what)
		}
		stands(t, c.what, r, len(c.b), c.why)
		goesOnRefused(t, c.what, r, len(c.b), c.why)
	}
}

// goesOnRefused asks a Reader that has refused everything.
func goesOnRefused(t *testing.T, what string, r *octet.Reader, left int, why api.Errno) {
	t.Helper()
	for _, n := range []int{0, 1, 2, 5, -1, math.MaxInt, math.MinInt} {
		if r.Digests(n) != nil || len(r.Raw(n)) != 0 || r.Text(n) != "" || len(r.Bytes(n)) != 0 || r.Texts(n, n) != nil || r.Texts(9, n) != nil || r.Texts(n, 9) != nil {
			t.Errorf("%s: asked on for %d: an answer that is not zero", what, n)
		}
		stands(t, what+", asked on", r, left, why)
	}
	if octet.Take[uint8](r) != 0 || octet.Take[uint16](r) != 0 || octet.Take[uint32](r) != 0 || octet.Take[uint64](r) != 0 || r.Flag() || r.Digest() != (api.Digest{}) {
		t.Errorf("%s: asked on: an answer that is not zero", what)
	}
	stands(t, what+", asked on", r, left, why)
}

// What stands at the place would be a form of every other kind: a Reader that has refused takes none of them.
func TestP1_5ARefusedReaderTakesNothing(t *testing.T) {
	good := slices.Concat([]byte{0, 1, 0, 1, 97}, bytes.Repeat([]byte{1}, 64))
	for _, refuse := range []struct {
		what string
		do   func(r *octet.Reader)
		why  api.Errno
	}{
		{"raw -1", func(r *octet.Reader) { r.Raw(-1) }, api.ErrForm},
		{"raw, one past", func(r *octet.Reader) { r.Raw(70) }, api.ErrForm},
		{"digests -1", func(r *octet.Reader) { r.Digests(-1) }, api.ErrForm},
		{"digests, one past", func(r *octet.Reader) { r.Digests(3) }, api.ErrForm},
		{"text", func(r *octet.Reader) { r.Text(0) }, api.ErrLong},
		{"bytes", func(r *octet.Reader) { r.Bytes(65536) }, api.ErrLong},
		{"texts", func(r *octet.Reader) { r.Texts(0, 9) }, api.ErrMany},
		{"a text of texts", func(r *octet.Reader) { r.Texts(9, 0) }, api.ErrLong},
	} {
		r := octet.Read(good)
		refuse.do(r)
		stands(t, refuse.what, r, len(good), refuse.why)
		goesOnRefused(t, refuse.what, r, len(good), refuse.why)
	}
}

func TestP1_5AtTheBounds(t *testing.T) {
	long := strings.Repeat("x", 65535)
	many := rising(65535)
	for _, c := range []struct {
		what  string
		b     []byte
		right func(r *octet.Reader) bool
	}{
		{"an empty text below 0", []byte{0, 0}, func(r *octet.Reader) bool { return r.Text(-1) == "" }},
		{"empty bytes below 0", []byte{0, 0, 0, 0}, func(r *octet.Reader) bool { return len(r.Bytes(math.MinInt)) == 0 }},
		{"no texts below 0", []byte{0, 0}, func(r *octet.Reader) bool { return len(r.Texts(-1, -1)) == 0 }},
		{"the empty text in a row", []byte{0, 1, 0, 0}, func(r *octet.Reader) bool { return slices.Equal(r.Texts(1, -1), []string{""}) }},
		{"a text at its bound", []byte{0, 2, 97, 98}, func(r *octet.Reader) bool { return r.Text(2) == "ab" }},
		{"bytes at their bound", []byte{0, 0, 0, 2, 97, 98}, func(r *octet.Reader) bool { return string(r.Bytes(2)) == "ab" }},
		{"texts at their bounds", []byte{0, 2, 0, 1, 97, 0, 2, 97, 97}, func(r *octet.Reader) bool { return slices.Equal(r.Texts(2, 2), []string{"a", "aa"}) }},
		{"the greatest text", append([]byte{255, 255}, long...), func(r *octet.Reader) bool { return r.Text(math.MaxInt) == long }},
		{"bytes above a text's field", append([]byte{0, 1, 0, 0, 'x'}, long...), func(r *octet.Reader) bool { return string(r.Bytes(65536)) == "x"+long }},
		{"the most texts", textsBytes(many), func(r *octet.Reader) bool { return slices.Equal(r.Texts(math.MaxInt, 3), many) }},
		{"the greatest text in a row", append([]byte{0, 1, 255, 255}, long...), func(r *octet.Reader) bool { return slices.Equal(r.Texts(1, math.MaxInt), []string{long}) }},
	} {
		r := octet.Read(c.b)
		if !c.right(r) {
			t.Errorf("%s: another answer", c.what)
		}
		stands(t, c.what, r, 0, api.OK)
	}
}

func TestP1_6DoneRefusesNothing(t *testing.T) {
	for _, b := range [][]byte{nil, {}} {
		stands(t, "no bytes", octet.Read(b), 0, api.OK)
	}
	r := octet.Read([]byte{1, 2, 3})
	stands(t, "ahead of all", r, 3, api.OK)
	if octet.Take[uint16](r) != 258 {
		t.Errorf("behind a Done that told of bytes left, the Reader goes on")
	}
	stands(t, "in the midst", r, 1, api.OK)
	if octet.Take[uint8](r) != 3 {
		t.Errorf("the last byte")
	}
	stands(t, "behind all", r, 0, api.OK)
	r.Flag()
	stands(t, "past the end", r, 0, api.ErrForm)

	r = octet.Read([]byte{0, 9, 1})
	r.Text(8)
	answers(t, "Done of a refused Reader with bytes left", r.Done(), api.ErrLong)
}

func TestP1_6TakeOnNil(t *testing.T) {
	if octet.Take[uint8](nil) != 0 || octet.Take[uint16](nil) != 0 || octet.Take[count](nil) != 0 || octet.Take[uint64](nil) != 0 {
		t.Errorf("Take on nil is not 0")
	}
}

func TestP1_7NewMemory(t *testing.T) {
	fill := func(p []byte) {
		for i := range p[:cap(p)] {
			p[:cap(p)][i] = 0xee
		}
	}
	b := slices.Concat([]byte{5, 6}, []byte{0, 0, 0, 2, 7, 8}, bytes.Repeat([]byte{9}, 96), []byte{0, 1, 0, 1, 97}, []byte{0, 1, 0, 1, 98})
	was := slices.Clone(b)
	r := octet.Read(b)
	fill(r.Raw(0))
	p := r.Raw(2)
	if !bytes.Equal(p, []byte{5, 6}) {
		t.Errorf("raw: %v", p)
	}
	fill(p)
	p = r.Bytes(2)
	if !bytes.Equal(p, []byte{7, 8}) {
		t.Errorf("bytes behind a raw answer that was changed: %v", p)
	}
	fill(p)
	ds := r.Digests(2)
	if ds[0] != ds[1] || ds[0][0] != 9 || ds[0][31] != 9 {
		t.Errorf("digests behind bytes that were changed: %v", ds)
	}
	for i := range ds[:cap(ds)] {
		ds[:cap(ds)][i] = api.Digest{0xee}
	}
	if d := r.Digest(); d[0] != 9 || d[31] != 9 {
		t.Errorf("a digest behind digests that were changed: %v", d)
	}
	l := r.Texts(9, 9)
	for i := range l[:cap(l)] {
		l[:cap(l)][i] = "changed"
	}
	if !slices.Equal(r.Texts(9, 9), []string{"b"}) || r.Done() != api.OK {
		t.Errorf("texts behind texts that were changed")
	}
	if !bytes.Equal(b, was) {
		t.Errorf("what was handed to Read has changed")
	}
}

func TestP1_7NoRoomForWhatIsNotThere(t *testing.T) {
	for _, c := range []struct {
		what string
		b    []byte
		take func(r *octet.Reader)
	}{
		{"bytes", []byte{127, 255, 255, 255, 1}, func(r *octet.Reader) { r.Bytes(math.MaxInt) }},
		{"bytes above their bound", []byte{127, 255, 255, 255, 1}, func(r *octet.Reader) { r.Bytes(5) }},
		{"text", []byte{255, 255, 1}, func(r *octet.Reader) { r.Text(math.MaxInt) }},
		{"texts", []byte{255, 255, 0, 0}, func(r *octet.Reader) { r.Texts(math.MaxInt, math.MaxInt) }},
		{"a text of texts", []byte{0, 1, 255, 255, 1}, func(r *octet.Reader) { r.Texts(math.MaxInt, math.MaxInt) }},
		{"raw", []byte{1}, func(r *octet.Reader) { r.Raw(1 << 30) }},
		{"digests", make([]byte, 32), func(r *octet.Reader) { r.Digests(1 << 25) }},
	} {
		const times = 64
		var ahead, behind runtime.MemStats
		runtime.ReadMemStats(&ahead)
		for range times {
			c.take(octet.Read(c.b))
		}
		runtime.ReadMemStats(&behind)
		if each := (behind.TotalAlloc - ahead.TotalAlloc) / times; each > 8192 {
			t.Errorf("%s: %d bytes of room made", c.what, each)
		}
	}
}
