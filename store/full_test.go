package store

import (
	"errors"
	"testing"

	"docket/api"
	"docket/disk"
)

// atTheEnd makes a store whose last segment is the last one that may be and has this room. (Four thousand real ones would have four GiB.)
func atTheEnd(t *testing.T, room int) (*disk.Disk, *Store) {
	t.Helper()
	d, err := disk.New(api.MaxSpace)
	if err != nil {
		t.Fatal(err)
	}
	s, err := Open(d)
	if err != nil {
		t.Fatal(err)
	}
	for k := range api.MaxSegments {
		s.row.begins = append(s.row.begins, k*api.MaxSegment)
		s.row.ends = append(s.row.ends, (k+1)*api.MaxSegment)
	}
	s.row.ends[api.MaxSegments-1] -= room
	s.synced = api.MaxSegments
	return d, s
}

func TestP5_3TheLastSegmentIsFull(t *testing.T) {
	for room, most := range map[int]int{0: -1, 12: -1, 13: 0, 14: 1, 1000: 987} {
		d, s := atTheEnd(t, room)
		for _, n := range []int{most + 1, most + 2, api.MaxEvent} {
			number, err := s.Append(make([]byte, n))
			f, ok := err.(*disk.Fault)
			if number != 0 || !ok || *f != (disk.Fault{Call: "store", Name: "Append", Why: api.ErrFull}) {
				t.Errorf("room %d, %d bytes: %d, %v", room, n, number, err)
			}
		}
		if _, err := s.Append(make([]byte, api.MaxEvent+1)); !errors.Is(err, api.ErrLong) {
			t.Errorf("a record that is too long: %v", err)
		}
		if s.Next() != api.MaxSegments || d.Acts() != 0 || len(s.held) != 0 {
			t.Errorf("room %d: Next %d, %d acts, %d bytes wait", room, s.Next(), d.Acts(), len(s.held))
		}
		if most < 0 {
			continue
		}
		if number, err := s.Append(make([]byte, most)); number != api.MaxSegments || err != nil {
			t.Errorf("room %d, %d bytes: %d, %v", room, most, number, err)
		}
	}
}

func TestP5_3NoFurtherNumber(t *testing.T) {
	for _, c := range []struct {
		number, segment int
		want            bool
	}{
		{0, 0, false},
		{api.MaxLog - 1, 0, false},
		{api.MaxLog, 0, true},
		{api.MaxLog + 1, 0, true},
		{0, api.MaxSegments - 1, false},
		{0, api.MaxSegments, true},
		{api.MaxLog - 1, api.MaxSegments - 1, false},
	} {
		if full(c.number, c.segment) != c.want {
			t.Errorf("number %d, segment %d: %v", c.number, c.segment, !c.want)
		}
	}
}
