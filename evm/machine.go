package evm

import (
	"math/bits"
	"slices"

	"moot/api"
	"moot/keccak"
	"moot/state"
	"moot/word"
	"moot/wordbytes"
)

// maxTaken is how many words an operation may take.
const maxTaken = 4

// machine is a frame that is run.
type machine struct {
	state      *state.State
	frame      Frame
	code       []byte
	dests      []int
	pc, next   int
	gas        uint64
	stack      []uint64
	memory     [api.MaxMemory]uint64
	answer     uint64 // of the last call
	result     uint64 // the frame's own answer
	messages   []api.Message
	done       bool
	unreadable error // why a word of the state can't be read
}

// step: the next operation. Why the frame fails; where a word can't be read that stands in unreadable, too.
func (m *machine) step() error {
	op := byte(stop)
	if m.pc < len(m.code) {
		op = m.code[m.pc]
	}
	s, ok := shapeOf(op)
	behind := m.number(m.pc+1, s.behind)
	if !ok || op == dup && behind > 7 || op == swap && (behind == 0 || behind > 7) {
		return api.ErrOp
	}
	needed := s.takes
	if op == dup || op == swap {
		needed = int(behind) + 1
	}
	if len(m.stack) < needed || len(m.stack)-s.takes+s.puts > api.MaxStack {
		return api.ErrStack
	}
	if m.gas < s.gas {
		return api.ErrGas
	}
	m.gas -= s.gas
	m.next = m.pc + 1 + s.behind
	why := m.operate(op, m.take(s.takes), behind)
	m.pc = m.next
	return why
}

// number: what n bytes of the code say; noughts stand behind its end.
func (m *machine) number(at, n int) uint64 {
	v := uint64(0)
	for i := at; i < at+n; i++ {
		v <<= 8
		if i < len(m.code) {
			v |= uint64(m.code[i])
		}
	}
	return v
}

func (m *machine) take(n int) [maxTaken]uint64 {
	taken := [maxTaken]uint64{}
	for i := range n {
		taken[i] = m.stack[len(m.stack)-1-i]
	}
	m.stack = m.stack[:len(m.stack)-n]
	return taken
}

func (m *machine) put(v uint64) {
	m.stack = append(m.stack, v)
}

func (m *machine) operate(op byte, taken [maxTaken]uint64, behind uint64) error {
	switch {
	case op == stop || op == done || op == revert:
		return m.end(op, taken[0])
	case op < push1:
		v, err := word.Apply(int(op), taken[0], taken[1], taken[2])
		m.put(v)
		return err
	case op <= swap:
		m.move(op, behind)
	case op <= sstore || op == balance:
		return m.access(op, taken[0], taken[1])
	case op <= jumpdest:
		return m.jump(op, taken[0], taken[1])
	case op == hash:
		pair := keccak.Pair(wordbytes.Leaf(taken[0]), wordbytes.Leaf(taken[1]))
		m.put(wordbytes.Get(pair[:], 0))
	case op == log:
		m.messages = append(m.messages, api.Message{From: m.frame.Self, Word: taken[0]})
	case op == call:
		return m.call(taken[0], taken[1], taken[2], taken[3])
	default:
		m.put(m.told(op))
	}
	return nil
}

func (m *machine) end(op byte, v uint64) error {
	why := error(nil)
	switch op {
	case revert:
		why = api.ErrRevert
		fallthrough
	case done:
		m.result = v
		fallthrough
	default:
		m.done = true
	}
	return why
}

// move: within the stack, or from the code to it.
func (m *machine) move(op byte, behind uint64) {
	top := len(m.stack) - 1
	switch op {
	case dup:
		behind = m.stack[top-int(behind)]
		fallthrough
	case push1, push8:
		m.put(behind)
	case swap:
		other := top - int(behind)
		m.stack[top], m.stack[other] = m.stack[other], m.stack[top]
	}
}

// told: what the frame knows of itself.
func (m *machine) told(op byte) uint64 {
	switch op {
	case caller:
		return m.frame.Caller
	case value:
		return m.frame.Value
	case data:
		return m.frame.Data
	case gas:
		return m.gas
	case self:
		return m.frame.Self
	}
	return m.answer
}

// access: to the memory, the storage, or a balance. Memory and storage have as many words.
func (m *machine) access(op byte, place, v uint64) error {
	if op == balance && place >= api.MaxAccounts || op != balance && place >= storageSize {
		return api.ErrRange
	}
	account, slot := m.frame.Self, storageSlot+place
	switch op {
	case mload:
		m.put(m.memory[place])
	case mstore:
		m.memory[place] = v
	case sstore:
		m.unreadable = m.state.Set(account, slot, v)
	case balance:
		account, slot = place, balanceSlot
		fallthrough
	case sload:
		got, err := m.state.Word(account, slot)
		m.unreadable = err
		m.put(got)
	}
	return m.unreadable
}

func (m *machine) jump(op byte, to, condition uint64) error {
	switch op {
	case jumpi:
		if condition == 0 {
			return nil
		}
		fallthrough
	case jump:
		if to >= uint64(len(m.code)) || !slices.Contains(m.dests, int(to)) {
			return api.ErrJump
		}
		m.next = int(to)
	}
	return nil
}

func (m *machine) call(to, value, data, gas uint64) error {
	if to >= api.MaxAccounts {
		return api.ErrRange
	}
	given := min(gas, m.gas-m.gas/64)
	o := Outcome{}
	if m.mayCall(to, value) {
		mark := m.state.Mark()
		if m.unreadable = m.state.Move(m.frame.Self, to, value); m.unreadable != nil {
			return m.unreadable
		}
		m.gas -= given
		callee := Frame{Self: to, Caller: m.frame.Self, Value: value, Data: data, Gas: given, Depth: m.frame.Depth + 1}
		if o, m.unreadable = run(m.state, callee); m.unreadable != nil {
			return m.unreadable
		}
		m.gas += o.Gas
		m.settle(mark, o.Done)
	}
	m.answer = o.Answer
	m.messages = append(m.messages, o.Messages...)
	if o.Done {
		m.put(1)
	} else {
		m.put(0)
	}
	return m.unreadable
}

// mayCall: is there a frame left, and can the value be moved? What needn't be known for it isn't read.
func (m *machine) mayCall(to, value uint64) bool {
	if m.frame.Depth == api.MaxFrames-1 {
		return false
	}
	own, err := m.state.Word(m.frame.Self, balanceSlot)
	if err != nil {
		m.unreadable = err
		return false
	}
	if own < value || to == m.frame.Self {
		return own >= value
	}
	other, err := m.state.Word(to, balanceSlot)
	if err != nil {
		m.unreadable = err
		return false
	}
	_, carry := bits.Add64(other, value, 0)
	return carry == 0
}

func (m *machine) settle(mark int, keep bool) {
	if keep {
		m.state.Keep(mark)
	} else {
		m.state.Back(mark)
	}
}
