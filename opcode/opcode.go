// Package opcode names the numbers of the machine's operations, for those who run, write and prove its steps.
package opcode

// Halt stands ahead of layer 1's operations, which go up to LastWord.
const (
	Halt     = 0
	Add      = 1
	Or       = 23
	LastWord = 25
)

// The machine's own operations.
const (
	Li = LastWord + 1 + iota
	Load
	Store
	Jump
	Jz
	Jnz
	Jal
	Jr
	Hash
	Pre
)
