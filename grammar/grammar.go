// Package grammar names the numbers of layer 12's expressions and statements, for those who run, compile and write its programs.
package grammar

// The expressions, by their Op: layer 1's operations, and behind them those of the language.
const (
	Add = 1 + iota
	Sub
	Mul
	Div
	Sdiv
	Mod
	Smod
	Addmod
	Mulmod
	Exp
	Signextend
	Byte
	Shl
	Shr
	Sar
	Lt
	Gt
	Slt
	Sgt
	Eq
	Iszero
	And
	Or
	Xor
	Not
	Const
	Local
	Load
	Call
	Hash
	Pre
)

// The statements, by their Kind.
const (
	Set = 1 + iota
	Store
	If
	While
	Return
	Do
	Halt
)
