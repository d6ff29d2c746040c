package lower

import (
	"moot/api"
	"moot/grammar"
	"moot/opcode"
)

// most is how many operands an operation of the machine has.
const most = 3

// reach is what a place may be off by where an instruction says it.
const reach = 1 << 30

// place is a place of the program's memory: an expression, and what is added to it.
type place struct {
	from   api.Expr
	offset int
}

// splitPlace: what can be said by an instruction's number is taken out of the expression.
func splitPlace(x api.Expr) place {
	if n, ok := small(x); ok {
		return place{offset: n, from: api.Expr{Op: grammar.Const}}
	}
	if x.Op == grammar.Add || x.Op == grammar.Sub {
		if n, ok := small(x.Args[1]); ok {
			if x.Op == grammar.Sub {
				n = -n
			}
			return place{offset: n, from: x.Args[0]}
		}
	}
	return place{from: x}
}

func small(x api.Expr) (int, bool) {
	n := int64(x.N)
	return int(n), x.Op == grammar.Const && n > -reach && n < reach
}

func hasCall(x api.Expr) bool {
	return x.Op == grammar.Call || anyCall(x.Args)
}

func anyCall(list []api.Expr) bool {
	for _, x := range list {
		if hasCall(x) {
			return true
		}
	}
	return false
}

// near: can a place not be so far that the base in front of it leads round to the machine's beginning?
func (p place) near() bool {
	if p.offset < 0 {
		return false
	}
	if p.from.Op == grammar.And {
		_, ok := small(p.from.Args[1])
		return ok && p.from.Args[1].N < reach
	}
	return p.from.Op == grammar.Const && p.from.N == 0
}

// check: goes wrong, if a register's value and the offset are no place of the machine. So what is below 2^13 is left, and with the base in front of it just the program's memory can be met.
func (c *compiler) check(p place, register int) {
	if !p.near() {
		c.emit(opcode.Load, scratch, register, 0, 0, p.offset)
	}
}

// operand: the register in which a value stands: k, or the one that is 0.
func (c *compiler) operand(x api.Expr, k int) int {
	if x.Op == grammar.Const && x.N == 0 {
		return zero
	}
	c.value(x, k)
	return k
}

// operands: at most three values, in registers from k on. One that has to wait for a call, or for which there is no room, waits in the frame.
func (c *compiler) operands(list []api.Expr, k int) [most]int {
	registers := [most]int{}
	waiting := [most]int{}
	before := c.waiting
	room := k+len(list)-1 <= last
	for i, x := range list {
		if c.operand(x, k) == zero {
			continue
		}
		if i+1 < len(list) && (!room || anyCall(list[i+1:])) {
			waiting[i] = c.wait()
			c.store(k, waiting[i])
			continue
		}
		registers[i] = k
		k++
	}
	for i := range list {
		if waiting[i] != 0 {
			c.load(k, waiting[i])
			registers[i] = k
			k++
		}
	}
	c.waiting = before
	return registers
}

// value: in the register k, which is last at most; those behind it are free.
func (c *compiler) value(x api.Expr, k int) {
	switch x.Op {
	case grammar.Const:
		c.constant(k, x.N)
	case grammar.Local:
		c.load(k, c.local(c.current, int(x.N)))
	case grammar.Load:
		at := splitPlace(x.Args[0])
		from := c.operand(at.from, k)
		c.check(at, from)
		c.emit(opcode.Load, k, from, 0, 0, base+at.offset)
	case grammar.Call:
		// All that waits for a call waits in the frame, so that k is the first register.
		c.call(x)
	case grammar.Hash, grammar.Pre:
		c.exchange(x, k)
		c.constant(k, 0)
	default:
		registers := c.operands(x.Args, k)
		c.emit(x.Op, k, registers[0], registers[1], registers[2], 0)
	}
}

// effect: an expression whose value nobody looks at.
func (c *compiler) effect(x api.Expr) {
	switch x.Op {
	case grammar.Call:
		c.call(x)
	case grammar.Hash, grammar.Pre:
		c.exchange(x, first)
	default:
		c.value(x, first)
	}
}

// call: of what is worked out only values in the frame wait by now, so that all registers are free.
func (c *compiler) call(x api.Expr) {
	callee := int(x.N)
	waiting := make([]int, len(x.Args))
	before := c.waiting
	for i, arg := range x.Args {
		register := c.operand(arg, first)
		if anyCall(x.Args[i+1:]) {
			waiting[i] = c.wait()
			c.store(register, waiting[i])
		} else {
			c.store(register, c.local(callee, i))
		}
	}
	for i, from := range waiting {
		if from != 0 {
			c.load(first, from)
			c.store(first, c.local(callee, i))
		}
	}
	c.waiting = before
	c.calls[len(c.words)] = callee
	c.invocations = append(c.invocations, invocation{from: c.current, to: callee})
	c.emit(opcode.Jal, scratch, 0, 0, 0, 0)
}

// exchange: a digest for a preimage, or a preimage for a digest.
func (c *compiler) exchange(x api.Expr, k int) {
	from, to := splitPlace(x.Args[0]), splitPlace(x.Args[1])
	registers := c.operands([]api.Expr{from.from, to.from}, k)
	c.check(from, registers[0])
	c.check(to, registers[1])
	// The two registers behind those of the operands take the places themselves.
	free := k + 2
	c.emitPlace(free, registers[0], from.offset)
	c.emitPlace(free+1, registers[1], to.offset)
	op := opcode.Hash
	if x.Op == grammar.Pre {
		op = opcode.Pre
	}
	c.emit(op, 0, free, free+1, 0, 0)
}

// emitPlace: the place of the machine's memory goes into a register.
func (c *compiler) emitPlace(target, register, offset int) {
	if register == zero {
		c.emit(opcode.Li, target, 0, 0, 0, base+offset)
		return
	}
	if offset == 0 {
		c.emit(opcode.Add, target, register, baseHeld, 0, 0)
		return
	}
	c.emit(opcode.Li, target, 0, 0, 0, base+offset)
	c.emit(opcode.Add, target, target, register, 0, 0)
}
