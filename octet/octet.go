// Package octet: canonical bytes: strict writers and readers: see doc/01-octet.md.
package octet

// The greatest numbers that a length or a count may tell.
const (
	maxShort = 1<<16 - 1 // bytes of a text, and texts of a row
	maxBytes = 1<<31 - 1 // of bytes; their field could tell more
)

// Size is a number of 1, 2, 4 or 8 bytes.
type Size interface {
	~uint8 | ~uint16 | ~uint32 | ~uint64
}

// width tells how many bytes a number of the type N has.
func width[N Size]() int {
	n := 0
	// A byte moves out in two halves: vet takes a shift by 8 of a type that may have 8 bits alone for a slip.
	for m := ^N(0); m != 0; m = m >> 4 >> 4 {
		n++
	}
	return n
}

// bound tells what a caller's most lets a length or a count be, where its field lets it be top.
func bound(most, top int) int { return max(0, min(most, top)) }

// Legal tells whether a text is a case's name: 1 to most bytes, each of them a to z, 0 to 9 or '-'.
func Legal(s string, most int) bool {
	if len(s) < 1 || len(s) > most {
		return false
	}
	for i := range len(s) {
		if !nameByte(s[i]) {
			return false
		}
	}
	return true
}

func nameByte(c byte) bool {
	return 'a' <= c && c <= 'z' || '0' <= c && c <= '9' || c == '-'
}
