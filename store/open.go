package store

import (
	"docket/api"
	"docket/disk"
	"docket/frame"
)

// Open opens the store that lies on a disk.
func Open(d *disk.Disk) (*Store, error) {
	s, why := find(d)
	if why != api.OK {
		return nil, refusal("Open", why)
	}
	if err := s.mend(); err != nil {
		return nil, err
	}
	s.claims = d.Claim(word)
	return s, nil
}

// Look opens it to read alone.
func Look(d *disk.Disk) (*Store, error) {
	s, why := find(d)
	if why != api.OK {
		return nil, refusal("Look", why)
	}
	s.looked, s.held = true, make([]byte, 0, s.row.length())
	for k, begin := range s.row.begins {
		s.held = append(s.held, bytesOf(d, k)[:s.row.segmentEnd(k)-begin]...)
	}
	return s, nil
}

// find makes a store of the whole records that lie on a disk; no act is made yet.
func find(d *disk.Disk) (*Store, api.Errno) {
	if d == nil {
		return nil, api.ErrArg
	}
	if !d.Power() {
		return nil, api.ErrDown
	}
	s := &Store{disk: d, epoch: d.Epoch()}
	there := present(d)
	for i, k := range there {
		if k != i || !s.row.takeIn(k, bytesOf(d, k), k == len(there)-1) {
			return nil, api.ErrCorrupt
		}
	}
	s.synced = s.row.many()
	return s, api.OK
}

// takeIn adds the whole records of a segment; false: these bytes cannot be its own. The last segment alone may hold none, and may end with a frame's beginning.
func (l *layout) takeIn(k int, b []byte, last bool) bool {
	size := 0
	for _, p := range frame.Rows(l.many(), b) {
		n := frame.Extra + len(p)
		if l.follows(n) != k {
			return false
		}
		l.add(n)
		size += n
	}
	_, _, why := frame.End(l.many(), b[size:])
	if last {
		return why == api.OK || why == api.ErrTorn
	}
	return why == api.OK && size > 0
}

// mend takes away what is torn at the end, and makes safe what is believed. Where it removes a segment the one ahead ends whole, so that one of the two is done at most.
func (s *Store) mend() error {
	last := len(s.row.begins) - 1
	if err := s.removeBehind(last); err != nil {
		return err
	}
	if last >= 0 {
		if err := s.shorten(last, s.row.length()-s.row.begins[last]); err != nil {
			return err
		}
	}
	if safe(s.disk.Loose()) {
		return nil
	}
	if last >= 0 {
		if err := s.syncBytes(last); err != nil {
			return err
		}
	}
	return s.syncNames()
}

// safe tells whether nothing is loose.
func safe(c api.Cut) bool {
	for _, n := range c.Bytes {
		if n > 0 {
			return false
		}
	}
	return c.Names == 0
}
