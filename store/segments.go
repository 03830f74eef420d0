package store

import (
	"slices"
	"strconv"

	"docket/api"
	"docket/disk"
)

// fileName tells the name of a segment: its digits are those of a number of six, without the first one.
func fileName(k int) string {
	return "seg-" + strconv.FormatInt(int64(1<<20+k), 16)[1:]
}

// present tells which segments are on a disk, rising.
func present(d *disk.Disk) []int {
	var l []int
	for name := range d.Walk() {
		if k, ok := segmentNumber(name); ok {
			l = append(l, k)
		}
	}
	return l
}

// segmentNumber tells which segment a file is; false: it is none.
func segmentNumber(name string) (int, bool) {
	if len(name) != len(fileName(0)) {
		return 0, false
	}
	k, err := strconv.ParseUint(name[len("seg-"):], 16, 32)
	if err != nil || k >= api.MaxSegments || name != fileName(int(k)) {
		return 0, false
	}
	return int(k), true
}

// bytesOf tells all bytes of a segment.
func bytesOf(d *disk.Disk, k int) []byte {
	n, _ := d.Length(fileName(k))
	b, _ := d.Read(fileName(k), 0, n)
	return b
}

// The acts. What is to be made safe is noted ahead of each: a refused act may be done all the same.

func (s *Store) create(k int) error {
	s.namesTried = true
	return s.disk.Create(fileName(k))
}

// removeBehind removes all segments behind one, from the last one on.
func (s *Store) removeBehind(k int) error {
	for _, there := range slices.Backward(present(s.disk)) {
		if there <= k {
			break
		}
		s.namesTried = true
		if err := s.disk.Remove(fileName(there)); err != nil {
			return err
		}
	}
	return nil
}

func (s *Store) syncNames() error {
	err := s.disk.SyncNames()
	s.namesTried = s.namesTried && err != nil
	return err
}

func (s *Store) lay(k int, p []byte) error {
	s.bytesTried = true
	return s.disk.Append(fileName(k), p)
}

// shorten cuts a segment that is longer than size.
func (s *Store) shorten(k, size int) error {
	if n, _ := s.disk.Length(fileName(k)); n <= size {
		return nil
	}
	s.bytesTried = true
	return s.disk.Cut(fileName(k), size)
}

func (s *Store) syncBytes(k int) error {
	err := s.disk.Sync(fileName(k))
	s.bytesTried = s.bytesTried && err != nil
	return err
}
