package keccak

import (
	"encoding/hex"
	"testing"

	"moot/api"
)

// slowPermute: the document's rounds, word by word.
func slowPermute(a [25]uint64) [25]uint64 {
	turn := func(v uint64, n int) uint64 { return v<<(n%64) | v>>(64-n%64) }
	lfsr := 1
	for range 24 {
		var p [5]uint64
		for i, v := range a {
			p[i%5] ^= v
		}
		for i := range a {
			a[i] ^= p[(i+4)%5] ^ turn(p[(i+1)%5], 1)
		}
		var b [25]uint64
		b[0] = a[0]
		x, y := 1, 0
		for t := range 24 {
			b[y+5*((2*x+3*y)%5)] = turn(a[x+5*y], (t+1)*(t+2)/2%64)
			x, y = y, (2*x+3*y)%5
		}
		for i := range a {
			row := i / 5 * 5
			a[i] = b[i] ^ ^b[row+(i+1)%5]&b[row+(i+2)%5]
		}
		for j := range 7 {
			a[0] ^= uint64(lfsr&1) << (1<<j - 1)
			lfsr *= 2
			if lfsr > 255 {
				lfsr ^= 0x171
			}
		}
	}
	return a
}

// slowSum: the document's digest, with all of its padding laid out.
func slowSum(b []byte) api.Hash {
	padded := append(append([]byte(nil), b...), 1)
	for len(padded)%136 != 0 {
		padded = append(padded, 0)
	}
	padded[len(padded)-1] ^= 128
	var a [25]uint64
	for at := 0; at < len(padded); at += 136 {
		for i := range 136 {
			a[i/8] ^= uint64(padded[at+i]) << (8 * (i % 8))
		}
		a = slowPermute(a)
	}
	var h api.Hash
	for i := range h {
		h[i] = byte(a[i/8] >> (8 * (i % 8)))
	}
	return h
}

func sample(n int) []byte {
	b := make([]byte, n)
	for i := range b {
		b[i] = byte(i*7 + n)
	}
	return b
}

// P2.1: known digests.
func TestKnownSums(t *testing.T) {
	for text, want := range map[string]string{
		"":    "c5d2460186f7233c927e7db2dcc703c0e500b653ca82273b7bfad8045d85a470",
		"abc": "4e03657aea45a94fc7d47ba826c8d667c0d1e6e33a64a036ec44f58fa12d6c45",
		"The quick brown fox jumps over the lazy dog": "4d741b6f1eb29cb2a9b9911c82f56fa8d73b04959d3d9d222895df6c0b28aa15",
	} {
		if h := Sum([]byte(text)); hex.EncodeToString(h[:]) != want {
			t.Errorf("Sum %q: %x", text, h)
		}
	}
}

// P2.1: the permutation by its rounds, and the constants of the first two.
func TestPermute(t *testing.T) {
	if constants[0] != 1 || constants[1] != 0x8082 {
		t.Errorf("constants %x", constants)
	}
	var a [25]uint64
	for range 20 {
		before := a
		if got, want := Permute(a), slowPermute(a); got != want {
			t.Fatalf("Permute: %x; want %x", got, want)
		}
		if a != before {
			t.Fatal("Permute changed what it was handed")
		}
		a = Permute(a)
		a[3] += 5
	}
}

// P2.1: digests of all lengths about the pieces' edges.
func TestSumOfAllLengths(t *testing.T) {
	for n := 0; n < 420; n++ {
		b := sample(n)
		if got, want := Sum(b), slowSum(b); got != want {
			t.Fatalf("Sum of %d bytes: %x; want %x", n, got, want)
		}
	}
	if Sum(nil) != Sum([]byte{}) {
		t.Error("none and nil are not one")
	}
}

// P2.1: the Pair.
func TestPair(t *testing.T) {
	a, b := Sum([]byte("a")), Sum([]byte("b"))
	both := append(append([]byte(nil), a[:]...), b[:]...)
	if Pair(a, b) != slowSum(both) || Pair(a, b) == Pair(b, a) {
		t.Error("Pair is not the digest of both")
	}
}

// P2.2: pieces of all kinds make the digest of the whole, and asking changes nothing.
func TestHasherPieces(t *testing.T) {
	whole := sample(700)
	for _, piece := range []int{1, 7, 8, 64, 135, 136, 137, 272, 700} {
		h := New()
		for at := 0; at < len(whole); at += piece {
			end := min(at+piece, len(whole))
			if err := h.Add(whole[at:end]); err != nil {
				t.Fatal(err)
			}
			for range 2 {
				if got, err := h.Sum(); got != Sum(whole[:end]) || err != nil {
					t.Fatalf("pieces of %d, at %d: %x, %v", piece, end, got, err)
				}
			}
		}
	}
}

// P2.2: no bytes yet; bytes that are changed later are not kept; nil.
func TestHasherEdges(t *testing.T) {
	h := New()
	if got, err := h.Sum(); got != Sum(nil) || err != nil {
		t.Errorf("a new one: %x, %v", got, err)
	}
	if err := h.Add(nil); err != nil {
		t.Error(err)
	}
	b := []byte("abc")
	h.Add(b)
	b[0] = 'z'
	if got, _ := h.Sum(); got != Sum([]byte("abc")) {
		t.Errorf("behind a change: %x", got)
	}
	var none *Hasher
	if err := none.Add(b); err != api.ErrNil {
		t.Errorf("Add of nil: %v", err)
	}
	if got, err := none.Sum(); got != (api.Hash{}) || err != api.ErrNil {
		t.Errorf("Sum of nil: %x, %v", got, err)
	}
}

func BenchmarkPair(b *testing.B) {
	h := api.Hash{}
	for b.Loop() {
		h = Pair(h, h)
	}
}
