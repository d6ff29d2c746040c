package evm

import "moot/word"

// The operations beside STOP and those of layer 1, by their bytes.
const (
	push1 = 32 + iota
	push8
	pop
	dup
	swap
	mload
	mstore
	sload
	sstore
	jump
	jumpi
	jumpdest
	caller
	value
	data
	gas
	self
	balance
	hash
	log
	call
	answer
	done
	revert
)

const stop = 0

// shape is what an operation takes and puts, how many bytes stand behind it, and what it costs.
type shape struct {
	takes, puts, behind int
	gas                 uint64
}

// shapes are those from PUSH1 on.
var shapes = [24]shape{
	{0, 1, 1, 1}, // PUSH1
	{0, 1, 8, 1}, // PUSH8
	{1, 0, 0, 1}, // POP
	{0, 1, 1, 1}, // DUP
	{0, 0, 1, 1}, // SWAP
	{1, 1, 0, 1}, // MLOAD
	{2, 0, 0, 1}, // MSTORE
	{1, 1, 0, 4}, // SLOAD
	{2, 0, 0, 8}, // SSTORE
	{1, 0, 0, 1}, // JUMP
	{2, 0, 0, 1}, // JUMPI
	{0, 0, 0, 1}, // JUMPDEST
	{0, 1, 0, 1}, // CALLER
	{0, 1, 0, 1}, // VALUE
	{0, 1, 0, 1}, // DATA
	{0, 1, 0, 1}, // GAS
	{0, 1, 0, 1}, // SELF
	{1, 1, 0, 4}, // BALANCE
	{2, 1, 0, 4}, // HASH
	{1, 0, 0, 8}, // LOG
	{4, 1, 0, 8}, // CALL
	{0, 1, 0, 1}, // ANSWER
	{1, 0, 0, 1}, // RETURN
	{1, 0, 0, 1}, // REVERT
}

// shapeOf: an operation's, and whether the byte is one.
func shapeOf(op byte) (shape, bool) {
	if op == stop {
		return shape{}, true
	}
	if n, err := word.Args(int(op)); err == nil {
		return shape{takes: n, puts: 1, gas: 1}, true
	}
	if op < push1 || op > revert {
		return shape{}, false
	}
	return shapes[op-push1], true
}
