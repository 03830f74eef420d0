package store

import (
	"sort"

	"docket/api"
)

// layout is where the frames of records lie. Places are told as if all segments lay one behind the other in one row of bytes.
type layout struct {
	ends   []int // where each record's frame ends
	begins []int // where each segment begins; none is empty, so these rise
}

// many tells how many records there are.
func (l *layout) many() int { return len(l.ends) }

// end tells where the first so many records end.
func (l *layout) end(many int) int {
	if many == 0 {
		return 0
	}
	return l.ends[many-1]
}

// length tells how many bytes the row has.
func (l *layout) length() int { return l.end(l.many()) }

// segment tells which segment the byte at a place of the row lies in; ahead of the row: -1.
func (l *layout) segment(at int) int { return sort.SearchInts(l.begins, at+1) - 1 }

// segmentEnd tells where a segment ends.
func (l *layout) segmentEnd(k int) int {
	if k+1 < len(l.begins) {
		return l.begins[k+1]
	}
	return l.length()
}

// follows tells which segment a further frame of n bytes lies in.
func (l *layout) follows(n int) int {
	last := len(l.begins) - 1
	if last >= 0 && l.length()-l.begins[last]+n <= api.MaxSegment {
		return last
	}
	return last + 1
}

// add lays a frame of n bytes behind the others.
func (l *layout) add(n int) {
	end := l.length()
	if l.follows(n) == len(l.begins) {
		l.begins = append(l.begins, end)
	}
	l.ends = append(l.ends, end+n)
}

// keep forgets all but the first so many records.
func (l *layout) keep(many int) {
	l.begins = l.begins[:l.segment(l.end(many)-1)+1]
	l.ends = l.ends[:many]
}
