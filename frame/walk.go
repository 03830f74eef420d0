package frame

import "docket/api"

// walk lends the records of the whole frames that b begins with, in order, till each has had enough. It tells how many frames and bytes it went over and, where each did not end it, why it goes on no further.
func walk(number int, b []byte, each func(number int, record []byte) bool) (int, int, api.Errno) {
	many, size, why := 0, 0, api.OK
frames:
	for size < len(b) {
		if !numbers(number + many) {
			why = api.ErrArg
			break
		}
		rest, s := b[size:], begin(number+many)
		for i, c := range rest {
			if !s.fits(i, c) {
				why = api.ErrSum
				break frames
			}
			if i+1 == s.size() {
				many, size = many+1, size+s.size()
				if !each(number+many-1, s.record(rest)) {
					break frames
				}
				continue frames
			}
		}
		why = api.ErrTorn
		break
	}
	return many, size, why
}

// scan goes over a frame's bytes and tells at each one whether some frame of the number goes on so.
type scan struct {
	length int    // of the record; while it is not wholly told, the least it can be
	head   uint32 // the register of the first CRC
	body   uint32 // the register of the second
}

// begin stands ahead of the first byte of a frame.
func begin(number int) scan { return scan{head: blank, body: numbered(number)} }

// fits takes the frame's i-th byte, which the one ahead of it must have fitted; false: no frame of the number has it there.
func (s *scan) fits(i int, c byte) bool {
	end := recordAt + s.length
	switch {
	case i < openingSize:
		s.head = turn(s.head, c)
		return s.opens(i, c)
	case i < recordAt:
		return c == highFirst(sum(s.head), i-openingSize)
	case i < end:
		s.body = turn(s.body, c)
		return true
	}
	return c == highFirst(sum(s.body), i-end)
}

// opens takes a byte of the opening.
func (s *scan) opens(i int, c byte) bool {
	if i == 0 {
		return c == mark
	}
	s.length += int(c) << (8 * (openingSize - 1 - i))
	return s.length <= api.MaxEvent
}

// size tells how many bytes the frame has, or would have at least. While the length is not wholly told, it is more than the bytes that were taken.
func (s *scan) size() int { return Extra + s.length }

// record lends the record of a frame that was gone over; it has no spare room, since other frames' bytes stand behind it.
func (s *scan) record(frame []byte) []byte {
	end := recordAt + s.length
	return frame[recordAt:end:end]
}

// highFirst tells the i-th byte of a number of four bytes.
func highFirst(n uint32, i int) byte { return byte(n >> (24 - 8*i)) }
