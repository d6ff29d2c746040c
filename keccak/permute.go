package keccak

import "math/bits"

// constants are those of the 24 rounds.
var constants = [24]uint64{
	0x1, 0x8082, 0x800000000000808a, 0x8000000080008000,
	0x808b, 0x80000001, 0x8000000080008081, 0x8000000000008009,
	0x8a, 0x88, 0x80008009, 0x8000000a,
	0x8000808b, 0x800000000000008b, 0x8000000000008089, 0x8000000000008003,
	0x8000000000008002, 0x8000000000000080, 0x800a, 0x800000008000000a,
	0x8000000080008081, 0x8000000000008080, 0x80000001, 0x8000000080008008,
}

// Permute: the permutation. The moves and turns of the 25 words are written out, since all else of the program waits for them.
func Permute(a [25]uint64) [25]uint64 {
	b := [25]uint64{}
	for i := range constants {
		p0 := a[0] ^ a[5] ^ a[10] ^ a[15] ^ a[20]
		p1 := a[1] ^ a[6] ^ a[11] ^ a[16] ^ a[21]
		p2 := a[2] ^ a[7] ^ a[12] ^ a[17] ^ a[22]
		p3 := a[3] ^ a[8] ^ a[13] ^ a[18] ^ a[23]
		p4 := a[4] ^ a[9] ^ a[14] ^ a[19] ^ a[24]
		d0 := p4 ^ bits.RotateLeft64(p1, 1)
		d1 := p0 ^ bits.RotateLeft64(p2, 1)
		d2 := p1 ^ bits.RotateLeft64(p3, 1)
		d3 := p2 ^ bits.RotateLeft64(p4, 1)
		d4 := p3 ^ bits.RotateLeft64(p0, 1)
		b[0] = a[0] ^ d0
		b[10] = bits.RotateLeft64(a[1]^d1, 1)
		b[20] = bits.RotateLeft64(a[2]^d2, 62)
		b[5] = bits.RotateLeft64(a[3]^d3, 28)
		b[15] = bits.RotateLeft64(a[4]^d4, 27)
		b[16] = bits.RotateLeft64(a[5]^d0, 36)
		b[1] = bits.RotateLeft64(a[6]^d1, 44)
		b[11] = bits.RotateLeft64(a[7]^d2, 6)
		b[21] = bits.RotateLeft64(a[8]^d3, 55)
		b[6] = bits.RotateLeft64(a[9]^d4, 20)
		b[7] = bits.RotateLeft64(a[10]^d0, 3)
		b[17] = bits.RotateLeft64(a[11]^d1, 10)
		b[2] = bits.RotateLeft64(a[12]^d2, 43)
		b[12] = bits.RotateLeft64(a[13]^d3, 25)
		b[22] = bits.RotateLeft64(a[14]^d4, 39)
		b[23] = bits.RotateLeft64(a[15]^d0, 41)
		b[8] = bits.RotateLeft64(a[16]^d1, 45)
		b[18] = bits.RotateLeft64(a[17]^d2, 15)
		b[3] = bits.RotateLeft64(a[18]^d3, 21)
		b[13] = bits.RotateLeft64(a[19]^d4, 8)
		b[14] = bits.RotateLeft64(a[20]^d0, 18)
		b[24] = bits.RotateLeft64(a[21]^d1, 2)
		b[9] = bits.RotateLeft64(a[22]^d2, 61)
		b[19] = bits.RotateLeft64(a[23]^d3, 56)
		b[4] = bits.RotateLeft64(a[24]^d4, 14)
		for row := 0; row < 25; row += 5 {
			b0, b1, b2, b3, b4 := b[row], b[row+1], b[row+2], b[row+3], b[row+4]
			a[row] = b0 ^ ^b1&b2
			a[row+1] = b1 ^ ^b2&b3
			a[row+2] = b2 ^ ^b3&b4
			a[row+3] = b3 ^ ^b4&b0
			a[row+4] = b4 ^ ^b0&b1
		}
		a[0] ^= constants[i]
	}
	return a
}
