package vm

import (
	"moot/api"
	"moot/opcode"
)

// Where the parts of an instruction stand, counted in bits.
const (
	opAt = 56
	dAt  = 52
	aAt  = 48
	bAt  = 44
	cAt  = 40
	n0At = 32 // the byte that must be 0
)

// Code: an instruction. ErrRange.
func Code(op, d, a, b, c int, n int64) (uint64, error) {
	if op < opcode.Halt || op > opcode.Pre || n < -1<<31 || n >= 1<<31 {
		return 0, api.ErrRange
	}
	for _, register := range [4]int{d, a, b, c} {
		if register < 0 || register > 15 {
			return 0, api.ErrRange
		}
	}
	return uint64(op)<<opAt | uint64(d)<<dAt | uint64(a)<<aAt | uint64(b)<<bAt | uint64(c)<<cAt | uint64(uint32(n)), nil
}

// Parts: of an instruction; ok: it is one.
func Parts(word uint64) (op, d, a, b, c int, n int64, ok bool) {
	cut := func(at, mask uint64) int { return int(word >> at & mask) }
	op = cut(opAt, 255)
	if op > opcode.Pre || cut(n0At, 255) != 0 {
		return 0, 0, 0, 0, 0, 0, false
	}
	return op, cut(dAt, 15), cut(aAt, 15), cut(bAt, 15), cut(cAt, 15), int64(int32(word)), true
}
