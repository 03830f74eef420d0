package octet_test

import (
	"bytes"
	"math"
	"math/rand"
	"slices"
	"strings"
	"testing"

	"docket/api"
	"docket/octet"
)

// form is one putting call and the taking call beside it, with the same bounds.
type form struct {
	what string
	put  func(w *octet.Writer) api.Errno
	take func(r *octet.Reader) form // the form of what was answered
	same func(r *octet.Reader) bool // takes, and holds the answer against what is put
}

func number[N octet.Size](n N) form {
	return form{
		what: "number",
		put:  func(w *octet.Writer) api.Errno { octet.Put(w, n); return api.OK },
		take: func(r *octet.Reader) form { return number(octet.Take[N](r)) },
		same: func(r *octet.Reader) bool { return octet.Take[N](r) == n },
	}
}

func flag(b bool) form {
	return form{
		what: "flag",
		put:  func(w *octet.Writer) api.Errno { w.Flag(b); return api.OK },
		take: func(r *octet.Reader) form { return flag(r.Flag()) },
		same: func(r *octet.Reader) bool { return r.Flag() == b },
	}
}

func digests(ds []api.Digest) form {
	return form{
		what: "digests",
		put:  func(w *octet.Writer) api.Errno { w.Digests(ds...); return api.OK },
		take: func(r *octet.Reader) form { return digests(r.Digests(len(ds))) },
		same: func(r *octet.Reader) bool { return slices.Equal(r.Digests(len(ds)), ds) },
	}
}

func raw(p []byte) form {
	return form{
		what: "raw",
		put:  func(w *octet.Writer) api.Errno { w.Raw(p); return api.OK },
		take: func(r *octet.Reader) form { return raw(r.Raw(len(p))) },
		same: func(r *octet.Reader) bool { return bytes.Equal(r.Raw(len(p)), p) },
	}
}

func text(s string, most int) form {
	return form{
		what: "text",
		put:  func(w *octet.Writer) api.Errno { return w.Text(s, most) },
		take: func(r *octet.Reader) form { return text(r.Text(most), most) },
		same: func(r *octet.Reader) bool { return r.Text(most) == s },
	}
}

func counted(p []byte, most int) form {
	return form{
		what: "bytes",
		put:  func(w *octet.Writer) api.Errno { return w.Bytes(p, most) },
		take: func(r *octet.Reader) form { return counted(r.Bytes(most), most) },
		same: func(r *octet.Reader) bool { return bytes.Equal(r.Bytes(most), p) },
	}
}

func texts(l []string, most, each int) form {
	return form{
		what: "texts",
		put:  func(w *octet.Writer) api.Errno { return w.Texts(l, most, each) },
		take: func(r *octet.Reader) form { return texts(r.Texts(most, each), most, each) },
		same: func(r *octet.Reader) bool { return slices.Equal(r.Texts(most, each), l) },
	}
}

// anyForm draws a form that may be put.
func anyForm(r *rand.Rand) form {
	p := make([]byte, r.Intn(6))
	r.Read(p)
	spare := r.Intn(3)
	switch r.Intn(10) {
	case 0:
		return number(uint8(r.Uint64()))
	case 1:
		return number(uint16(r.Uint64()))
	case 2:
		return number(count(r.Uint64()))
	case 3:
		return number(r.Uint64())
	case 4:
		return flag(r.Intn(2) == 0)
	case 5:
		ds := make([]api.Digest, r.Intn(3))
		for i := range ds {
			r.Read(ds[i][:])
		}
		return digests(ds)
	case 6:
		return raw(p)
	case 7:
		return text(string(p), len(p)+spare)
	case 8:
		return counted(p, len(p)+spare)
	}
	var l []string
	for range r.Intn(5) {
		l = append(l, strings.Repeat(string(rune('a'+r.Intn(3))), r.Intn(4)))
	}
	slices.Sort(l)
	l = slices.Compact(l)
	return texts(l, len(l)+spare, 4)
}

// anyRow draws a row of forms and lays it down.
func anyRow(t *testing.T, r *rand.Rand) ([]form, []byte) {
	t.Helper()
	row := make([]form, r.Intn(6))
	w := octet.New()
	for i := range row {
		row[i] = anyForm(r)
		answers(t, row[i].what, row[i].put(w), api.OK)
	}
	return row, w.All()
}

// retake takes a row's forms out of b; where they fill it, it lays down what was answered.
func retake(t *testing.T, row []form, b []byte) bool {
	t.Helper()
	x, w := octet.Read(b), octet.New()
	again := make([]form, len(row))
	for i, f := range row {
		again[i] = f.take(x)
	}
	if x.Done() != api.OK {
		return false
	}
	for _, f := range again {
		answers(t, "put again: "+f.what, f.put(w), api.OK)
	}
	if !bytes.Equal(w.All(), b) {
		t.Errorf("a second spelling: %v is taken, and put as %v", b, w.All())
	}
	return true
}

func TestP1_8WhatIsPutIsTaken(t *testing.T) {
	r := rand.New(rand.NewSource(8))
	for range 3000 {
		row, b := anyRow(t, r)
		x := octet.Read(b)
		for _, f := range row {
			if !f.same(x) {
				t.Fatalf("%s: another answer out of %v", f.what, b)
			}
		}
		answers(t, "Done", x.Done(), api.OK)
		retake(t, row, b)
		for n := range len(b) {
			if retake(t, row, b[:n]) {
				t.Fatalf("the first %d bytes of %v are taken for the whole", n, b)
			}
		}
		if retake(t, row, append(b, 0)) {
			t.Fatalf("a byte behind %v is not seen", b)
		}
	}
}

func TestP1_8OneSpellingOfTurnedBytes(t *testing.T) {
	r := rand.New(rand.NewSource(9))
	taken := 0
	for range 20000 {
		row, b := anyRow(t, r)
		if len(b) == 0 {
			continue
		}
		b[r.Intn(len(b))] = byte(r.Intn(4) * r.Intn(86))
		if retake(t, row, b) {
			taken++
		}
	}
	if taken < 1000 {
		t.Errorf("%d rows of turned bytes were taken: too few to show anything", taken)
	}
}

// Every text of up to 8 bytes over few letters is handed to each form that has bounds.
func TestP1_8OneSpellingOfAllShortBytes(t *testing.T) {
	letters := []byte{0, 1, 2, 97}
	rows := [][]form{
		{texts(nil, 2, 2)}, {texts(nil, 3, 0)}, {text("", 2), text("", 3)}, {counted(nil, 2)}, {flag(true), text("", 4)},
		{number(uint8(0)), texts(nil, 2, 1), flag(true)}, {number(uint16(0)), raw([]byte{1}), flag(false)},
	}
	taken := make([]int, len(rows))
	var walk func(b []byte)
	walk = func(b []byte) {
		for i, row := range rows {
			if retake(t, row, b) {
				taken[i]++
			}
		}
		if len(b) == 8 {
			return
		}
		for _, c := range letters {
			walk(append(slices.Clone(b), c))
		}
	}
	walk(nil)
	for i, n := range taken {
		if n == 0 {
			t.Errorf("of the %d-th row nothing was taken", i)
		}
	}
}

func TestP1_9Legal(t *testing.T) {
	for c := range 256 {
		want := strings.IndexByte("abcdefghijklmnopqrstuvwxyz0123456789-", byte(c)) >= 0
		for _, s := range []string{string([]byte{byte(c)}), string([]byte{byte(c), 'a'}), string([]byte{'a', byte(c)}), string([]byte{'a', byte(c), 'a'})} {
			if octet.Legal(s, 3) != want {
				t.Errorf("Legal(%q, 3) is not %v", s, want)
			}
		}
	}
	z := strings.Repeat("z", 65)
	for _, c := range []struct {
		s    string
		most int
		want bool
	}{
		{"c-7", 3, true}, {"c-7", 2, false}, {"c-7", math.MaxInt, true}, {"c-7", math.MinInt, false}, {"c", 1, true}, {"c", 0, false}, {"c", -1, false},
		{"", 9, false}, {"", 0, false}, {"", -1, false}, {z[:64], 64, true}, {z, 64, false}, {z, 65, true}, {"---", 3, true}, {"caf\u00e9", 9, false},
	} {
		if octet.Legal(c.s, c.most) != c.want {
			t.Errorf("Legal(%q, %d) is not %v", c.s, c.most, c.want)
		}
	}
}

func TestExample1(t *testing.T) {
	w := octet.New()
	octet.Put(w, uint16(770))
	w.Flag(true)
	holds(t, "770, true", w, 3, 2, 1)
	octet.Put(w, uint32(5))
	holds(t, "5", w, 3, 2, 1, 0, 0, 0, 5)
}

func TestExample2(t *testing.T) {
	w := octet.New()
	answers(t, "bo bolt", w.Texts([]string{"bo", "bolt"}, 2, 4), api.OK)
	answers(t, "bolt bo", w.Texts([]string{"bolt", "bo"}, 2, 4), api.ErrForm)
	answers(t, "bo bo", w.Texts([]string{"bo", "bo"}, 9, 9), api.ErrForm)
	answers(t, "bolt a, one", w.Texts([]string{"bolt", "a"}, 1, 4), api.ErrMany)
	answers(t, "bolt a, of three", w.Texts([]string{"bolt", "a"}, 2, 3), api.ErrLong)
	holds(t, "bo bolt alone", w, 0, 2, 0, 2, 98, 111, 0, 4, 98, 111, 108, 116)
}

func TestExample3(t *testing.T) {
	w := octet.New()
	answers(t, "oak, 2", w.Text("oak", 2), api.ErrLong)
	holds(t, "oak, 2", w)
	answers(t, "oak, 3", w.Text("oak", 3), api.OK)
	holds(t, "oak, 3", w, 0, 3, 111, 97, 107)
}

func TestExample4(t *testing.T) {
	r := octet.Read([]byte{1, 2, 3})
	if n := octet.Take[uint16](r); n != 258 {
		t.Errorf("Take: %d", n)
	}
	if r.Flag() {
		t.Errorf("3 is no flag")
	}
	stands(t, "Flag", r, 1, api.ErrForm)
	if len(r.Raw(0)) != 0 || octet.Take[uint8](r) != 0 {
		t.Errorf("asked on")
	}
	answers(t, "Done", r.Done(), api.ErrForm)
}

func TestExamples5To7(t *testing.T) {
	for _, c := range []struct {
		what string
		b    []byte
		take func(r *octet.Reader)
		want api.Errno
	}{
		{"Text(9)", []byte{0, 5, 97, 98}, func(r *octet.Reader) { r.Text(9) }, api.ErrForm},
		{"Text(4)", []byte{0, 5, 97, 98}, func(r *octet.Reader) { r.Text(4) }, api.ErrLong},
		{"Text(4) of a byte", []byte{0}, func(r *octet.Reader) { r.Text(4) }, api.ErrForm},
		{"Bytes, much told", []byte{255, 255, 255, 255}, func(r *octet.Reader) { r.Bytes(1000000) }, api.ErrLong},
		{"Bytes, one told", []byte{0, 0, 0, 1}, func(r *octet.Reader) { r.Bytes(1000000) }, api.ErrForm},
		{"Texts that fall", []byte{0, 2, 0, 1, 98, 0, 1, 97}, func(r *octet.Reader) { r.Texts(5, 5) }, api.ErrForm},
		{"Texts, three told", []byte{0, 3}, func(r *octet.Reader) { r.Texts(2, 5) }, api.ErrMany},
		{"Digests(-1)", nil, func(r *octet.Reader) { r.Digests(-1) }, api.ErrForm},
	} {
		r := octet.Read(c.b)
		c.take(r)
		stands(t, c.what, r, len(c.b), c.want)
	}
	answers(t, "Read(nil)", octet.Read(nil).Done(), api.OK)
}

func TestExample8(t *testing.T) {
	if !octet.Legal("c-7", 3) || octet.Legal("c_7", 9) || octet.Legal("C7", 9) || octet.Legal("", 9) || octet.Legal("c", 0) {
		t.Errorf("Legal")
	}
}
