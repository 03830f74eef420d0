package octet

import (
	"bytes"

	"docket/api"
)

// Writer lays forms down, one behind the other.
type Writer struct {
	b []byte // never handed out: All tells a copy
}

// New begins with no bytes.
func New() *Writer { return &Writer{} }

// Put lays a number down, the highest byte first. On a nil Writer it does nothing.
func Put[N Size](w *Writer, n N) {
	if w == nil {
		return
	}
	for left := width[N]() - 1; left >= 0; left-- {
		w.b = append(w.b, byte(n>>(8*left)))
	}
}

// Flag lays a flag down.
func (w *Writer) Flag(b bool) {
	if b {
		w.b = append(w.b, 1)
	} else {
		w.b = append(w.b, 0)
	}
}

// Digests lays digests down, with no number ahead of them.
func (w *Writer) Digests(ds ...api.Digest) {
	for _, d := range ds {
		w.b = append(w.b, d[:]...)
	}
}

// Raw lays bytes down, with no length ahead of them.
func (w *Writer) Raw(parts ...[]byte) {
	for _, p := range parts {
		w.b = append(w.b, p...)
	}
}

// Text lays a text down, its length ahead of it; ErrLong if it has more than most bytes.
func (w *Writer) Text(s string, most int) api.Errno {
	if len(s) > bound(most, maxShort) {
		return api.ErrLong
	}
	w.text(s)
	return api.OK
}

// text lays down a text that is known to be short enough.
func (w *Writer) text(s string) {
	Put(w, uint16(len(s)))
	w.b = append(w.b, s...)
}

// Bytes lays bytes down, their length ahead of them; ErrLong if there are more than most.
func (w *Writer) Bytes(p []byte, most int) api.Errno {
	if len(p) > bound(most, maxBytes) {
		return api.ErrLong
	}
	Put(w, uint32(len(p)))
	w.b = append(w.b, p...)
	return api.OK
}

// Texts lays a row of texts down that rise; ErrMany, ErrLong or ErrForm if it may not be.
func (w *Writer) Texts(l []string, most, each int) api.Errno {
	if len(l) > bound(most, maxShort) {
		return api.ErrMany
	}
	// The whole row is looked at first: a refused one lays nothing.
	for i, s := range l {
		if len(s) > bound(each, maxShort) {
			return api.ErrLong
		}
		if i > 0 && s <= l[i-1] {
			return api.ErrForm
		}
	}
	Put(w, uint16(len(l)))
	for _, s := range l {
		w.text(s)
	}
	return api.OK
}

// Len tells how many bytes there are.
func (w *Writer) Len() int { return len(w.b) }

// All tells the bytes.
func (w *Writer) All() []byte { return bytes.Clone(w.b) }
