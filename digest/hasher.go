package digest

import (
	"math/bits"

	"docket/api"
)

// blockSize is how many bytes SHA-256 takes at once.
const blockSize = 64

// roundWords are the words that the 64 rounds add: k(0) to k(63) of FIPS 180-4.
var roundWords = [64]uint32{
	0x428a2f98, 0x71374491, 0xb5c0fbcf, 0xe9b5dba5, 0x3956c25b, 0x59f111f1, 0x923f82a4, 0xab1c5ed5,
	0xd807aa98, 0x12835b01, 0x243185be, 0x550c7dc3, 0x72be5d74, 0x80deb1fe, 0x9bdc06a7, 0xc19bf174,
	0xe49b69c1, 0xefbe4786, 0x0fc19dc6, 0x240ca1cc, 0x2de92c6f, 0x4a7484aa, 0x5cb0a9dc, 0x76f988da,
	0x983e5152, 0xa831c66d, 0xb00327c8, 0xbf597fc7, 0xc6e00bf3, 0xd5a79147, 0x06ca6351, 0x14292967,
	0x27b70a85, 0x2e1b2138, 0x4d2c6dfc, 0x53380d13, 0x650a7354, 0x766a0abb, 0x81c2c92e, 0x92722c85,
	0xa2bfe8a1, 0xa81a664b, 0xc24b8b70, 0xc76c51a3, 0xd192e819, 0xd6990624, 0xf40e3585, 0x106aa070,
	0x19a4c116, 0x1e376c08, 0x2748774c, 0x34b0bcb5, 0x391c0cb3, 0x4ed8aa4a, 0x5b9cca4f, 0x682e6ff3,
	0x748f82ee, 0x78a5636f, 0x84c87814, 0x8cc70208, 0x90befffa, 0xa4506ceb, 0xbef9a3f7, 0xc67178f2,
}

// Hasher takes a text piece by piece.
type Hasher struct {
	state [8]uint32       // behind the last whole block
	block [blockSize]byte // the begun block: the text's last taken % blockSize bytes
	taken uint64          // bytes of the text so far
}

// New begins with the empty text.
func New() *Hasher {
	return &Hasher{state: [8]uint32{
		0x6a09e667, 0xbb67ae85, 0x3c6ef372, 0xa54ff53a, 0x510e527f, 0x9b05688c, 0x1f83d9ab, 0x5be0cd19,
	}}
}

// Write takes the next piece.
func (h *Hasher) Write(p []byte) {
	begun := int(h.taken % blockSize)
	h.taken += uint64(len(p))
	if begun > 0 {
		n := copy(h.block[begun:], p)
		if begun+n < blockSize {
			return
		}
		mix(&h.state, h.block[:])
		p = p[n:]
	}
	for ; len(p) >= blockSize; p = p[blockSize:] {
		mix(&h.state, p[:blockSize])
	}
	copy(h.block[:], p)
}

// Sum tells the sum of what was taken. It ends a copy: h goes on as it stands.
func (h *Hasher) Sum() api.Digest {
	last := *h
	last.end()
	var d api.Digest
	for i, n := range last.state {
		d[4*i], d[4*i+1], d[4*i+2], d[4*i+3] = byte(n>>24), byte(n>>16), byte(n>>8), byte(n)
	}
	return d
}

// end fills the text up to whole blocks, with its length as their last 8 bytes.
func (h *Hasher) end() {
	var fill [blockSize + 8]byte
	fill[0] = 128
	n := 1 + (blockSize+55-int(h.taken%blockSize))%blockSize // up to 56 more than whole blocks
	length := 8 * h.taken
	for i := range 8 {
		fill[n+i] = byte(length >> (56 - 8*i))
	}
	h.Write(fill[:n+8])
}

// Fork makes a second hasher that has taken the same.
func (h *Hasher) Fork() *Hasher {
	other := *h
	return &other
}

// mix takes one block into the state. The letters are those of FIPS 180-4.
func mix(state *[8]uint32, block []byte) {
	w := spread(block)
	a, b, c, d, e, f, g, h := state[0], state[1], state[2], state[3], state[4], state[5], state[6], state[7]
	for t := range w {
		x := h + (turn(e, 6) ^ turn(e, 11) ^ turn(e, 25)) + (e&f ^ ^e&g) + roundWords[t] + w[t]
		y := (turn(a, 2) ^ turn(a, 13) ^ turn(a, 22)) + (a&b ^ a&c ^ b&c)
		h, g, f, e, d, c, b, a = g, f, e, d+x, c, b, a, x+y
	}
	for i, n := range [8]uint32{a, b, c, d, e, f, g, h} {
		state[i] += n
	}
}

// spread makes a block's sixteen words into those of the 64 rounds.
func spread(block []byte) [64]uint32 {
	var w [64]uint32
	for t := range 16 {
		p := block[4*t : 4*t+4]
		w[t] = uint32(p[0])<<24 | uint32(p[1])<<16 | uint32(p[2])<<8 | uint32(p[3])
	}
	for t := 16; t < len(w); t++ {
		early, late := w[t-15], w[t-2]
		w[t] = w[t-16] + (turn(early, 7) ^ turn(early, 18) ^ early>>3) +
			w[t-7] + (turn(late, 17) ^ turn(late, 19) ^ late>>10)
	}
	return w
}

// turn turns a word right by n bits.
func turn(x uint32, n int) uint32 { return bits.RotateLeft32(x, -n) }
