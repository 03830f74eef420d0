package store

import (
	"docket/api"
	"docket/frame"
)

// Append lets a record wait.
func (s *Store) Append(p []byte) (int, error) {
	number, why := s.Next(), s.locked()
	if why == api.OK {
		why = s.row.refuses(len(p))
	}
	if why != api.OK {
		return 0, refusal("Append", why)
	}
	packed, why := frame.Pack(number, p)
	if why != api.OK {
		return 0, refusal("Append", why)
	}
	s.held = append(s.held, packed...)
	s.row.add(len(packed))
	return number, nil
}

// refuses tells why there is no place for a further record of n bytes; OK: there is.
func (l *layout) refuses(n int) api.Errno {
	if n > api.MaxEvent {
		return api.ErrLong
	}
	if full(l.many(), l.follows(frame.Extra+n)) {
		return api.ErrFull
	}
	return api.OK
}

// full tells whether there is no such number for a record, or no such segment.
func full(number, segment int) bool {
	return number >= api.MaxLog || segment >= api.MaxSegments
}

// Sync lays down what waits.
func (s *Store) Sync() error {
	if why := s.locked(); why != api.OK {
		return refusal("Sync", why)
	}
	if s.Next() == s.synced && !s.left {
		return nil
	}
	defer s.forget() // what is not synced by then
	if s.left {
		if err := s.takeBack(); err != nil {
			return err
		}
	}
	s.left = true
	if err := s.layDown(); err != nil {
		return err
	}
	s.synced, s.left = s.Next(), false
	return nil
}

// layDown lays the frames that wait into their segments, and makes each one safe ahead of the next.
func (s *Store) layDown() error {
	for at := s.row.end(s.synced); at < s.row.length(); {
		k := s.row.segment(at)
		end := s.row.segmentEnd(k)
		if err := s.layInto(k, s.taken(at, end), at == s.row.begins[k]); err != nil {
			return err
		}
		at = end
	}
	return nil
}

// layInto lays frames behind those of a segment, or into a fresh one.
func (s *Store) layInto(k int, frames []byte, fresh bool) error {
	if fresh {
		if err := s.create(k); err != nil {
			return err
		}
	}
	if err := s.lay(k, frames); err != nil {
		return err
	}
	if err := s.syncBytes(k); err != nil || !fresh {
		return err
	}
	return s.syncNames()
}

// Drop forgets what waits.
func (s *Store) Drop() {
	if !s.looked {
		s.forget()
	}
}

// forget forgets the records that are not synced.
func (s *Store) forget() {
	s.row.keep(s.synced)
	s.held = nil
}

// Cut takes records off the end.
func (s *Store) Cut(size int) error {
	why := s.locked()
	if why == api.OK && (size < 0 || size > s.synced) {
		why = api.ErrArg
	}
	if why != api.OK {
		return refusal("Cut", why)
	}
	s.left = s.left || size < s.synced
	s.synced = size
	s.forget()
	if !s.left {
		return nil
	}
	return s.takeBack()
}

// takeBack takes away what lies on the disk behind the synced records. It goes by what is there: an earlier one may have been broken off.
func (s *Store) takeBack() error {
	end := s.row.end(s.synced)
	last := s.row.segment(end - 1)
	if err := s.removeBehind(last); err != nil {
		return err
	}
	// The names first: a segment that comes back must not find the one ahead of it cut.
	if s.namesTried {
		if err := s.syncNames(); err != nil {
			return err
		}
	}
	if last >= 0 {
		if err := s.trim(last, end-s.row.begins[last]); err != nil {
			return err
		}
	}
	s.left = false
	return nil
}

// trim takes away what a segment has behind its first size bytes.
func (s *Store) trim(k, size int) error {
	if err := s.shorten(k, size); err != nil || !s.bytesTried {
		return err
	}
	return s.syncBytes(k)
}
