package frame

import "docket/octet"

// blank is the register that has taken no byte.
const blank = 1<<32 - 1

// halfTurns are what four moves make of the four bits that fall off: each bit that is 1 has xored EDB88320 in.
var halfTurns = [16]uint32{
	0x00000000, 0x1db71064, 0x3b6e20c8, 0x26d930ac, 0x76dc4190, 0x6b6b51f4, 0x4db26158, 0x5005713c,
	0xedb88320, 0xf00f9344, 0xd6d6a3e8, 0xcb61b38c, 0x9b64c2b0, 0x86d3d2d4, 0xa00ae278, 0xbdbdf21c,
}

// CRC tells the CRC-32 of bytes.
func CRC(b []byte) uint32 { return sum(over(blank, b)) }

// sum tells the CRC of what a register has taken.
func sum(register uint32) uint32 { return ^register }

// over takes bytes into the register.
func over(register uint32, b []byte) uint32 {
	for _, c := range b {
		register = turn(register, c)
	}
	return register
}

// turn takes one byte into the register, by its halves.
func turn(register uint32, c byte) uint32 {
	register ^= uint32(c)
	register = register>>4 ^ halfTurns[register&15]
	return register>>4 ^ halfTurns[register&15]
}

// numbered tells the register that has taken a record's number, ahead of the record.
func numbered(number int) uint32 {
	w := octet.New()
	octet.Put(w, uint64(number))
	return over(blank, w.All())
}
