package onestep

import (
	"moot/api"
	"moot/commit"
	"moot/keccak"
	"moot/opcode"
	"moot/vm"
	"moot/word"
	"moot/wordbytes"
)

const memorySize = 1 << api.MemoryDepth

// memory is what a step asks: its words, and the preimages of digests.
type memory interface {
	read(place uint64) (uint64, error)
	write(place, v uint64) error
	preimage(h api.Hash) (api.Pre, error)
}

// advance: a step of the machine that has this head and this memory. An error is the memory's.
func advance(h *commit.Head, mem memory) error {
	if h.Halted {
		return nil
	}
	if h.Pc >= memorySize {
		stop(h, api.Wrong)
		return nil
	}
	instruction, err := mem.read(h.Pc)
	if err != nil {
		return err
	}
	op, d, a, b, c, n, ok := vm.Parts(instruction)
	if !ok {
		stop(h, api.Wrong)
		return nil
	}
	r := &h.Registers
	switch {
	case op == opcode.Halt:
		h.Pc++
		stop(h, r[a])
	case op < opcode.Li:
		r[d], err = word.Apply(op, r[a], r[b], r[c])
		h.Pc++
	case op == opcode.Li:
		r[d] = uint64(n)
		h.Pc++
	case op <= opcode.Store:
		err = access(h, mem, op, d, b, r[a]+uint64(n))
	case op <= opcode.Jr:
		jump(h, op, d, a, uint64(n))
	default:
		err = exchange(h, mem, op, r[a], r[b])
	}
	return err
}

func stop(h *commit.Head, exit uint64) {
	h.Halted, h.Exit = true, exit
}

// access: a word of the memory is loaded or stored.
func access(h *commit.Head, mem memory, op, d, b int, where uint64) error {
	if where >= memorySize {
		stop(h, api.Wrong)
		return nil
	}
	h.Pc++
	if op == opcode.Store {
		return mem.write(where, h.Registers[b])
	}
	v, err := mem.read(where)
	h.Registers[d] = v
	return err
}

func jump(h *commit.Head, op, d, a int, to uint64) {
	v := h.Registers[a]
	if op == opcode.Jr {
		to = v
	}
	if op == opcode.Jz && v != 0 || op == opcode.Jnz && v == 0 {
		h.Pc++
		return
	}
	if to >= memorySize {
		stop(h, api.Wrong)
		return
	}
	if op == opcode.Jal {
		h.Registers[d] = h.Pc + 1
	}
	h.Pc = to
}

// exchange: a digest for a preimage, or a preimage for a digest.
func exchange(h *commit.Head, mem memory, op int, from, to uint64) error {
	reads, writes := wordbytes.PreWords, wordbytes.HashWords
	if op == opcode.Pre {
		reads, writes = writes, reads
	}
	if from > memorySize-uint64(reads) || to > memorySize-uint64(writes) {
		stop(h, api.Wrong)
		return nil
	}
	taken := api.Pre{}
	for i := range reads {
		v, err := mem.read(from + uint64(i))
		if err != nil {
			return err
		}
		wordbytes.Put(taken[:], i, v)
	}
	given, err := exchanged(mem, op, taken)
	if err != nil {
		return err
	}
	for i := range writes {
		if err := mem.write(to+uint64(i), wordbytes.Get(given[:], i)); err != nil {
			return err
		}
	}
	h.Pc++
	return nil
}

// exchanged: for a preimage its digest, for a digest its preimage.
func exchanged(mem memory, op int, taken api.Pre) (api.Pre, error) {
	h := api.Hash{}
	if op == opcode.Pre {
		copy(h[:], taken[:])
		return mem.preimage(h)
	}
	given := api.Pre{}
	h = keccak.Sum(taken[:])
	copy(given[:], h[:])
	return given, nil
}
