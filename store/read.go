package store

import (
	"iter"

	"docket/api"
	"docket/frame"
)

// Get tells a record.
func (s *Store) Get(i int) ([]byte, error) {
	if why := s.lacks(i); why != api.OK {
		return nil, refusal("Get", why)
	}
	p, ok := s.record(i)
	if !ok {
		return nil, refusal("Get", api.ErrCorrupt)
	}
	return p, nil
}

// lacks tells why a record cannot be told; OK: it can.
func (s *Store) lacks(i int) api.Errno {
	if why := s.dead(); why != api.OK {
		return why
	}
	if i < 0 {
		return api.ErrArg
	}
	if i >= s.Next() {
		return api.ErrSize
	}
	return api.OK
}

// Rows goes through the records.
func (s *Store) Rows(from int) iter.Seq2[int, []byte] {
	first, next := max(from, 0), s.Next()
	return func(yield func(int, []byte) bool) {
		for i := first; i < next && s.lacks(i) == api.OK; i++ {
			p, ok := s.record(i)
			if !ok || !yield(i, p) {
				return
			}
		}
	}
}

// record takes a record out of its frame; false: somebody else has changed the segment meanwhile.
func (s *Store) record(i int) ([]byte, bool) {
	p, _, why := frame.Unpack(i, s.frameOf(i))
	return p, why == api.OK
}

// frameOf tells a record's frame: it is in memory, or on the disk.
func (s *Store) frameOf(i int) []byte {
	at, end := s.row.end(i), s.row.end(i+1)
	if at >= s.heldFrom() {
		return s.taken(at, end)
	}
	k := s.row.segment(at)
	b, _ := s.disk.Read(fileName(k), at-s.row.begins[k], end-at)
	return b
}

// heldFrom tells the place of the row from which on it is in memory.
func (s *Store) heldFrom() int { return s.row.length() - len(s.held) }

// taken tells the bytes of the row from one place to another; they must be in memory.
func (s *Store) taken(at, end int) []byte {
	b := make([]byte, end-at)
	copy(b, s.held[at-s.heldFrom():])
	return b
}
