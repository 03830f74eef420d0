package octet

import (
	"bytes"

	"docket/api"
)

// Reader takes forms, one behind the other, till the first that is not there.
type Reader struct {
	b   []byte    // never handed out: answers are copies of its parts
	at  int       // behind the last form, or where the refused one begins
	why api.Errno // the first refusal; nothing is taken behind it
}

// Read begins at the first byte.
func Read(b []byte) *Reader { return &Reader{b: bytes.Clone(b)} }

// next moves over n bytes and lends them, or refuses, if they are not there.
func (r *Reader) next(n int) []byte {
	if r.why != api.OK {
		return nil
	}
	if n < 0 || n > r.Left() {
		r.why = api.ErrForm
		return nil
	}
	r.at += n
	return r.b[r.at-n : r.at]
}

// refuse goes back to where the refused form begins. A part of that form, or a form ahead of it, may have refused already: then that number stays.
func (r *Reader) refuse(from int, why api.Errno) {
	if r.why == api.OK {
		r.why = why
	}
	r.at = from
}

// Take takes a number. Of a nil Reader it is 0.
func Take[N Size](r *Reader) N {
	var n N
	if r == nil {
		return n
	}
	for _, c := range r.next(width[N]()) {
		n = n<<4<<4 | N(c) // in two halves, as in width
	}
	return n
}

// Flag takes a flag.
func (r *Reader) Flag() bool {
	from := r.at
	c := Take[uint8](r)
	if c > 1 {
		r.refuse(from, api.ErrForm)
	}
	return c == 1
}

// Digest takes a digest.
func (r *Reader) Digest() api.Digest {
	var d api.Digest
	copy(d[:], r.next(len(d)))
	return d
}

// Digests takes n digests.
func (r *Reader) Digests(n int) []api.Digest {
	if r.why != api.OK {
		return nil
	}
	// Divided, not multiplied: n times a digest's bytes may be beyond an int.
	if n < 0 || n > r.Left()/len(api.Digest{}) {
		r.why = api.ErrForm
		return nil
	}
	ds := make([]api.Digest, n)
	for i := range ds {
		ds[i] = r.Digest()
	}
	return ds
}

// Raw takes n bytes.
func (r *Reader) Raw(n int) []byte { return bytes.Clone(r.next(n)) }

// Text takes a text of at most most bytes.
func (r *Reader) Text(most int) string {
	from := r.at
	n := Take[uint16](r)
	return string(r.counted(from, uint32(n), bound(most, maxShort)))
}

// Bytes takes bytes with their length, at most most of them.
func (r *Reader) Bytes(most int) []byte {
	from := r.at
	n := Take[uint32](r)
	return bytes.Clone(r.counted(from, n, bound(most, maxBytes)))
}

// counted lends the n bytes behind a length that was just taken; the form of both begins at from.
func (r *Reader) counted(from int, n uint32, most int) []byte {
	if n > uint32(most) {
		r.refuse(from, api.ErrLong)
		return nil
	}
	p := r.next(int(n))
	if r.why != api.OK {
		r.at = from
	}
	return p
}

// Texts takes a row of at most most texts that rise, each of at most each bytes.
func (r *Reader) Texts(most, each int) []string {
	from := r.at
	n := int(Take[uint16](r))
	if n > bound(most, maxShort) {
		r.refuse(from, api.ErrMany)
		return nil
	}
	var l []string // grows with the texts that are there: the number that is told may be a lie
	for i := range n {
		s := r.Text(each)
		if r.why != api.OK || i > 0 && s <= l[i-1] {
			r.refuse(from, api.ErrForm)
			return nil
		}
		l = append(l, s)
	}
	return l
}

// Left tells how many bytes stand from the reader's place on.
func (r *Reader) Left() int { return len(r.b) - r.at }

// Why tells the first refusal.
func (r *Reader) Why() api.Errno { return r.why }

// Done tells the first refusal, or whether bytes are left.
func (r *Reader) Done() api.Errno {
	if r.why == api.OK && r.Left() > 0 {
		return api.ErrForm
	}
	return r.why
}
