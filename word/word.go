// Package word is layer 1: 64-bit machine words, signed and unsigned.
package word

import (
	"math/bits"

	"moot/api"
)

// The operations, by their numbers in the document's table.
const (
	add = 1 + iota
	sub
	mul
	div
	sdiv
	mod
	smod
	addmod
	mulmod
	exp
	signextend
	byteOf
	shl
	shr
	sar
	lt
	gt
	slt
	sgt
	eq
	iszero
	and
	or
	xor
	not
)

// Args: how many operands an operation looks at. ErrOp.
func Args(op int) (int, error) {
	switch {
	case op < add || op > not:
		return 0, api.ErrOp
	case op == addmod || op == mulmod:
		return 3, nil
	case op == iszero || op == not:
		return 1, nil
	}
	return 2, nil
}

// Apply: an operation. ErrOp.
func Apply(op int, a, b, c uint64) (uint64, error) {
	switch {
	case op < add || op > not:
		return 0, api.ErrOp
	case op <= exp:
		return arithmetic(op, a, b, c), nil
	case op <= sar:
		return shifted(op, a, b), nil
	case op <= iszero:
		return compared(op, a, b), nil
	}
	return bitwise(op, a, b), nil
}

// Wide: the whole product.
func Wide(a, b uint64) (uint64, uint64) {
	return bits.Mul64(a, b)
}

// Split: the quotient and the rest of two words by one. ErrRange.
func Split(high, low, n uint64) (uint64, uint64, error) {
	if n <= high {
		return 0, 0, api.ErrRange
	}
	quotient, rest := bits.Div64(high, low, n)
	return quotient, rest, nil
}

func arithmetic(op int, a, b, c uint64) uint64 {
	switch op {
	case sub:
		b = -b
		fallthrough
	case add:
		return a + b
	case mul:
		return a * b
	case addmod:
		sum, carry := bits.Add64(a, b, 0)
		return rest(carry, sum, c)
	case mulmod:
		high, low := bits.Mul64(a, b)
		return rest(high, low, c)
	case exp:
		return power(a, b)
	}
	if b == 0 {
		return 0
	}
	return divided(op, a, b)
}

// divided: by what is not 0.
func divided(op int, a, b uint64) uint64 {
	switch op {
	case div:
		return a / b
	case sdiv:
		return uint64(int64(a) / int64(b))
	case mod:
		return a % b
	}
	return uint64(int64(a) % int64(b))
}

func rest(high, low, n uint64) uint64 {
	if n == 0 {
		return 0
	}
	return bits.Rem64(high, low, n)
}

func power(a, b uint64) uint64 {
	v := uint64(1)
	for b > 0 {
		if b&1 == 1 {
			v *= a
		}
		a *= a
		b >>= 1
	}
	return v
}

func shifted(op int, a, b uint64) uint64 {
	switch op {
	case signextend:
		if a >= 7 {
			return b
		}
		// The sign byte is brought to the top, so that the way back fills with it.
		up := 56 - 8*a
		return uint64(int64(b<<up) >> up)
	case byteOf:
		if a > 7 {
			return 0
		}
		return b >> (56 - 8*a) & 255
	case shl:
		return b << a
	case shr:
		return b >> a
	}
	return uint64(int64(b) >> a)
}

func compared(op int, a, b uint64) uint64 {
	holds := false
	switch op {
	case gt:
		a, b = b, a
		fallthrough
	case lt:
		holds = a < b
	case sgt:
		a, b = b, a
		fallthrough
	case slt:
		holds = int64(a) < int64(b)
	case iszero:
		b = 0
		fallthrough
	case eq:
		holds = a == b
	}
	if holds {
		return 1
	}
	return 0
}

func bitwise(op int, a, b uint64) uint64 {
	switch op {
	case and:
		return a & b
	case or:
		return a | b
	case not:
		b = 1<<64 - 1
		fallthrough
	case xor:
		return a ^ b
	}
	return 0
}
