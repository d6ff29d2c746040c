// Package wordbytes lays words into bytes, the highest byte first, as all layers do.
package wordbytes

import "moot/api"

// Size is how many bytes a word has; PreWords and HashWords are how many words a preimage and a digest have.
const (
	Size      = 8
	PreWords  = 8
	HashWords = 4
)

// Put: the word at a place of b, counted in words.
func Put(b []byte, place int, v uint64) {
	for i := range Size {
		b[Size*place+i] = byte(v >> (56 - 8*i))
	}
}

// Get: the word that stands at a place of b, counted in words.
func Get(b []byte, place int) uint64 {
	v := uint64(0)
	for i := range Size {
		v = v<<8 | uint64(b[Size*place+i])
	}
	return v
}

// Leaf: a word as a leaf: noughts, and it.
func Leaf(v uint64) api.Hash {
	h := api.Hash{}
	Put(h[:], 3, v)
	return h
}
