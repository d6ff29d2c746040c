package rollup

import (
	"moot/api"
	"moot/client"
	"moot/commit"
	"moot/lower"
	"moot/vm"
	"moot/wordbytes"
)

// outputAt is where the output stands in the client's memory.
const outputAt = 24

// Shown is what shows an output.
type Shown struct {
	Memory api.Hash
	Head   commit.Head
	Words  []commit.Proof
}

// Show: what shows a machine's output. ErrNil, ErrOpen.
func Show(m *vm.Machine) (Shown, error) {
	if m == nil {
		return Shown{}, api.ErrNil
	}
	if !m.Halted {
		return Shown{}, api.ErrOpen
	}
	first, err := outputPlace()
	if err != nil {
		return Shown{}, err
	}
	root, err := commit.Root(m)
	if err != nil {
		return Shown{}, err
	}
	h, err := commit.HeadOf(m)
	if err != nil {
		return Shown{}, err
	}
	s := Shown{Memory: root, Head: h}
	for i := range uint64(wordbytes.HashWords) {
		p, err := commit.Prove(m, first+i)
		if err != nil {
			return Shown{}, err
		}
		s.Words = append(s.Words, p)
	}
	return s, nil
}

// Told: the output that is shown of a commitment. ErrShape, ErrProof.
func Told(final api.Hash, s Shown) (api.Hash, error) {
	if len(s.Words) != wordbytes.HashWords {
		return api.Hash{}, api.ErrShape
	}
	for _, p := range s.Words {
		if len(p.Path) != api.MemoryDepth {
			return api.Hash{}, api.ErrShape
		}
	}
	if commit.Join(s.Memory, s.Head) != final || !s.Head.Halted || s.Head.Exit != 0 {
		return api.Hash{}, api.ErrProof
	}
	first, err := outputPlace()
	if err != nil {
		return api.Hash{}, err
	}
	told := api.Hash{}
	for i, p := range s.Words {
		holds, err := commit.Holds(s.Memory, first+uint64(i), p)
		if err != nil || !holds {
			return api.Hash{}, api.ErrProof
		}
		wordbytes.Put(told[:], i, p.Value)
	}
	return told, nil
}

// outputPlace: where the client's output begins in a machine's memory.
func outputPlace() (uint64, error) {
	image, err := lower.Compile(client.Program())
	if err != nil {
		return 0, err
	}
	return uint64(image.Base + outputAt), nil
}
