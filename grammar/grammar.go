// Package grammar names the numbers of layer 12's expressions and statements, for those who run, compile and write its programs.
package grammar

// The expressions, by their Op: layer 1's operations up to LastWord, and those of the language.
const (
	Add      = 1
	Sub      = 2
	Iszero   = 21
	And      = 22
	LastWord = 25
)

const (
	Const = LastWord + 1 + iota
	Local
	Load
	Call
	Hash
	Pre
)

// The statements, by their Kind.
const (
	Set = 1 + iota
	Store
	If
	While
	Return
	Do
	Halt
)
