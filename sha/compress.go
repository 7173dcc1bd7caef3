package sha

import "math/bits"

// constants are the standard's: of the cube roots of the first 64 primes the first 32 bits behind the point.
var constants = [64]uint32{
	0x428a2f98, 0x71374491, 0xb5c0fbcf, 0xe9b5dba5, 0x3956c25b, 0x59f111f1, 0x923f82a4, 0xab1c5ed5,
	0xd807aa98, 0x12835b01, 0x243185be, 0x550c7dc3, 0x72be5d74, 0x80deb1fe, 0x9bdc06a7, 0xc19bf174,
	0xe49b69c1, 0xefbe4786, 0x0fc19dc6, 0x240ca1cc, 0x2de92c6f, 0x4a7484aa, 0x5cb0a9dc, 0x76f988da,
	0x983e5152, 0xa831c66d, 0xb00327c8, 0xbf597fc7, 0xc6e00bf3, 0xd5a79147, 0x06ca6351, 0x14292967,
	0x27b70a85, 0x2e1b2138, 0x4d2c6dfc, 0x53380d13, 0x650a7354, 0x766a0abb, 0x81c2c92e, 0x92722c85,
	0xa2bfe8a1, 0xa81a664b, 0xc24b8b70, 0xc76c51a3, 0xd192e819, 0xd6990624, 0xf40e3585, 0x106aa070,
	0x19a4c116, 0x1e376c08, 0x2748774c, 0x34b0bcb5, 0x391c0cb3, 0x4ed8aa4a, 0x5b9cca4f, 0x682e6ff3,
	0x748f82ee, 0x78a5636f, 0x84c87814, 0x8cc70208, 0x90befffa, 0xa4506ceb, 0xbef9a3f7, 0xc67178f2,
}

// compress takes one block into the state.
func (s *Hash) compress(block []byte) {
	words := schedule(block)
	// Eight variables, as the compiler keeps no array in registers.
	a, b, c, d := s.state[0], s.state[1], s.state[2], s.state[3]
	e, f, g, h := s.state[4], s.state[5], s.state[6], s.state[7]
	for t := range words {
		turned := bits.RotateLeft32(e, -6) ^ bits.RotateLeft32(e, -11) ^ bits.RotateLeft32(e, -25)
		first := h + turned + (e&f ^ ^e&g) + constants[t] + words[t]
		turned = bits.RotateLeft32(a, -2) ^ bits.RotateLeft32(a, -13) ^ bits.RotateLeft32(a, -22)
		second := turned + (a&b ^ a&c ^ b&c)
		h, g, f, e = g, f, e, d+first
		d, c, b, a = c, b, a, first+second
	}
	for at, word := range [8]uint32{a, b, c, d, e, f, g, h} {
		s.state[at] += word
	}
}

// schedule is the word of each round: those of the block, and what the standard makes of them.
func schedule(block []byte) [64]uint32 {
	var words [64]uint32
	for t := range 16 {
		p := block[4*t : 4*t+4]
		words[t] = uint32(p[0])<<24 | uint32(p[1])<<16 | uint32(p[2])<<8 | uint32(p[3])
	}
	for t := range 48 {
		early, late := words[t+1], words[t+14]
		early = bits.RotateLeft32(early, -7) ^ bits.RotateLeft32(early, -18) ^ early>>3
		late = bits.RotateLeft32(late, -17) ^ bits.RotateLeft32(late, -19) ^ late>>10
		words[t+16] = words[t] + early + words[t+9] + late
	}
	return words
}
