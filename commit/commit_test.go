package commit

import (
	"testing"

	"moot/api"
	"moot/keccak"
	"moot/merkle"
	"moot/vm"
)

func zero(h int) api.Hash {
	nought, _ := merkle.Zero(h)
	return nought
}

// filled: a machine with words all over its memory.
func filled() *vm.Machine {
	m := &vm.Machine{Pc: 0x0102030405060708, Halted: true, Exit: 1<<64 - 3}
	for i := range m.Memory {
		m.Memory[i] = uint64(i) * 0x0101010101010101
	}
	for i := range m.Registers {
		m.Registers[i] = uint64(i+1) << 40
	}
	return m
}

func bytesOf(v uint64) (b [8]byte) {
	for i := range b {
		b[i] = byte(v >> (56 - 8*i))
	}
	return b
}

func four(a, b, c, d uint64) (h api.Hash) {
	for i, v := range []uint64{a, b, c, d} {
		w := bytesOf(v)
		copy(h[8*i:], w[:])
	}
	return h
}

// slowRoot: the root above n words, straight from the words of the document.
func slowRoot(words []uint64) api.Hash {
	if len(words) == 1 {
		return four(0, 0, 0, words[0])
	}
	half := len(words) / 2
	return keccak.Pair(slowRoot(words[:half]), slowRoot(words[half:]))
}

func slowDigest(h Head) api.Hash {
	r := h.Registers
	left := keccak.Pair(four(r[0], r[1], r[2], r[3]), four(r[4], r[5], r[6], r[7]))
	right := keccak.Pair(four(r[8], r[9], r[10], r[11]), four(r[12], r[13], r[14], r[15]))
	halted := uint64(0)
	if h.Halted {
		halted = 1
	}
	return keccak.Pair(keccak.Pair(left, right), four(h.Pc, halted, h.Exit, 0))
}

// P11.1: heads, roots and commitments.
func TestCommitments(t *testing.T) {
	for _, m := range []*vm.Machine{{}, filled(), {Pc: 3}, {Halted: true}, {Exit: 4}} {
		h, err := HeadOf(m)
		if h != (Head{m.Registers, m.Pc, m.Halted, m.Exit}) || err != nil {
			t.Errorf("HeadOf: %+v, %v", h, err)
		}
		if Digest(h) != slowDigest(h) {
			t.Errorf("Digest: %x", Digest(h))
		}
		root, err := Root(m)
		if root != slowRoot(m.Memory[:]) || err != nil {
			t.Errorf("Root: %x, %v", root, err)
		}
		of, err := Of(m)
		if of != keccak.Pair(root, slowDigest(h)) || of != Join(root, h) || err != nil {
			t.Errorf("Of: %x, %v", of, err)
		}
	}
	if root, _ := Root(&vm.Machine{}); root != zero(13) {
		t.Errorf("of a new one: %x", root)
	}
}

// P11.1: each part of a head tells.
func TestDigestTellsAll(t *testing.T) {
	seen := map[api.Hash]int{Digest(Head{}): -1}
	heads := []Head{{Pc: 1}, {Halted: true}, {Exit: 1}}
	for i := range 16 {
		h := Head{}
		h.Registers[i] = 1
		heads = append(heads, h)
	}
	for i, h := range heads {
		if other, ok := seen[Digest(h)]; ok {
			t.Errorf("%d is like %d", i, other)
		}
		seen[Digest(h)] = i
	}
}

// P11.2, P11.3: proofs of words, and what they become with other words.
func TestProofs(t *testing.T) {
	m := filled()
	root, _ := Root(m)
	for _, place := range []uint64{0, 1, 2, 4095, 4096, 8190, 8191} {
		p, err := Prove(m, place)
		if p.Value != m.Memory[place] || len(p.Path) != 13 || err != nil {
			t.Fatalf("Prove %d: %v", place, err)
		}
		if ok, err := Holds(root, place, p); !ok || err != nil {
			t.Errorf("Holds %d: %v, %v", place, ok, err)
		}
		other := m.Copy()
		other.Memory[place] = 99
		want, _ := Root(other)
		if got, err := Write(root, place, p, 99); got != want || err != nil {
			t.Errorf("Write %d: %x, %v", place, got, err)
		}
		refuted(t, root, place, Proof{p.Value + 1, p.Path})
		refuted(t, root, place^1, p)
		refuted(t, zero(13), place, p)
		for i := range p.Path {
			path := append([]api.Hash(nil), p.Path...)
			path[i][5] ^= 1
			refuted(t, root, place, Proof{p.Value, path})
		}
	}
}

func refuted(t *testing.T, root api.Hash, place uint64, p Proof) {
	t.Helper()
	if ok, err := Holds(root, place, p); ok || err != nil {
		t.Errorf("Holds %d: %v, %v", place, ok, err)
	}
	if got, err := Write(root, place, p, 1); got != (api.Hash{}) || err != api.ErrProof {
		t.Errorf("Write %d: %x, %v", place, got, err)
	}
}

// P11.2, P11.3: the document's examples.
func TestExamples(t *testing.T) {
	p, err := Prove(&vm.Machine{}, 5)
	if p.Value != 0 || len(p.Path) != 13 || err != nil {
		t.Fatalf("%v, %v", p, err)
	}
	for h, beside := range p.Path {
		if beside != zero(h) {
			t.Errorf("height %d: %x", h, beside)
		}
	}
	if ok, err := Holds(zero(13), 5, p); !ok || err != nil {
		t.Errorf("%v, %v", ok, err)
	}
	p.Value = 1
	refuted(t, zero(13), 5, p)
}

// P11.1 to P11.3: the errors in their order.
func TestErrors(t *testing.T) {
	h, err := HeadOf(nil)
	if h != (Head{}) || err != api.ErrNil {
		t.Errorf("HeadOf: %v", err)
	}
	for _, ask := range []func(*vm.Machine) (api.Hash, error){Root, Of} {
		if got, err := ask(nil); got != (api.Hash{}) || err != api.ErrNil {
			t.Errorf("%x, %v", got, err)
		}
	}
	if p, err := Prove(nil, 9000); p.Value != 0 || p.Path != nil || err != api.ErrNil {
		t.Errorf("Prove: %v", err)
	}
	for _, place := range []uint64{8192, 1<<64 - 1} {
		if p, err := Prove(&vm.Machine{}, place); p.Path != nil || err != api.ErrRange {
			t.Errorf("Prove %d: %v", place, err)
		}
		checkErrors(t, place, 0, api.ErrRange)
	}
	for _, n := range []int{0, 12, 14, 17} {
		checkErrors(t, 5, n, api.ErrShape)
	}
}

func checkErrors(t *testing.T, place uint64, n int, want error) {
	t.Helper()
	p := Proof{0, make([]api.Hash, n)}
	if ok, err := Holds(zero(13), place, p); ok || err != want {
		t.Errorf("Holds %d, %d: %v, %v", place, n, ok, err)
	}
	if got, err := Write(zero(13), place, p, 1); got != (api.Hash{}) || err != want {
		t.Errorf("Write %d, %d: %x, %v", place, n, got, err)
	}
}

func BenchmarkOf(b *testing.B) {
	m := filled()
	for b.Loop() {
		Of(m)
	}
}
