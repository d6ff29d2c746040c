package vm

import (
	"moot/api"
	"moot/opcode"
	"moot/witness"
	"moot/word"
	"moot/wordbytes"
)

// step: what a step changes is laid down at its end, so that one that goes wrong leaves all as it was.
func (m *Machine) step(s *witness.Store) {
	if m.Halted {
		return
	}
	if m.Pc >= size {
		m.stop(api.Wrong)
		return
	}
	op, d, a, b, c, n, ok := Parts(m.Memory[m.Pc])
	if !ok {
		m.stop(api.Wrong)
		return
	}
	r := &m.Registers
	switch {
	case op == opcode.Halt:
		m.Pc++
		m.stop(r[a])
	case op < opcode.Li:
		r[d], _ = word.Apply(op, r[a], r[b], r[c])
		m.Pc++
	case op == opcode.Li:
		r[d] = uint64(n)
		m.Pc++
	case op <= opcode.Store:
		m.access(op, d, b, r[a]+uint64(n))
	case op <= opcode.Jr:
		m.jump(op, d, a, uint64(n))
	default:
		m.exchange(s, op, r[a], r[b])
	}
}

func (m *Machine) stop(exit uint64) {
	m.Halted, m.Exit = true, exit
}

// access: a word of the memory is loaded or stored.
func (m *Machine) access(op, d, b int, where uint64) {
	if where >= size {
		m.stop(api.Wrong)
		return
	}
	if op == opcode.Load {
		m.Registers[d] = m.Memory[where]
	} else {
		m.Memory[where] = m.Registers[b]
	}
	m.Pc++
}

func (m *Machine) jump(op, d, a int, to uint64) {
	v := m.Registers[a]
	switch op {
	case opcode.Jr:
		to = v
	case opcode.Jz, opcode.Jnz:
		if (v == 0) != (op == opcode.Jz) {
			m.Pc++
			return
		}
	}
	if to >= size {
		m.stop(api.Wrong)
		return
	}
	if op == opcode.Jal {
		m.Registers[d] = m.Pc + 1
	}
	m.Pc = to
}

// exchange: a digest for a preimage, or a preimage for a digest.
func (m *Machine) exchange(s *witness.Store, op int, from, to uint64) {
	reads, writes := uint64(wordbytes.PreWords), uint64(wordbytes.HashWords)
	if op == opcode.Pre {
		reads, writes = writes, reads
	}
	if from > size-reads || to > size-writes {
		m.stop(api.Wrong)
		return
	}
	taken := api.Pre{}
	for i := range int(reads) {
		wordbytes.Put(taken[:], i, m.Memory[from+uint64(i)])
	}
	given, ok := exchanged(s, op, taken)
	if !ok {
		m.stop(api.Missing)
		return
	}
	for i := range writes {
		m.Memory[to+i] = wordbytes.Get(given[:], int(i))
	}
	m.Pc++
}

// exchanged: for a preimage its digest, which then is in the store; for a digest its preimage, if there is one.
func exchanged(s *witness.Store, op int, taken api.Pre) (api.Pre, bool) {
	if op == opcode.Pre {
		h := api.Hash{}
		copy(h[:], taken[:])
		p, err := s.Get(h)
		return p, err == nil
	}
	given := api.Pre{}
	h, err := s.Add(taken)
	copy(given[:], h[:])
	return given, err == nil
}
