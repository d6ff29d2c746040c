package lower

import (
	"moot/api"
	"moot/grammar"
	"moot/opcode"
)

func (c *compiler) list(list []api.Stmt) {
	for _, x := range list {
		c.statement(x)
	}
}

// leaves: does nobody come behind a list?
func leaves(list []api.Stmt) bool {
	if len(list) == 0 {
		return false
	}
	x := list[len(list)-1]
	return x.Kind == grammar.Return || x.Kind == grammar.Halt || x.Kind == grammar.If && leaves(x.Body) && leaves(x.Else)
}

func (c *compiler) statement(x api.Stmt) {
	switch x.Kind {
	case grammar.Set:
		c.store(c.operand(x.A, first), c.local(c.current, x.N))
	case grammar.Store:
		at := splitPlace(x.A)
		registers := c.operands([]api.Expr{at.from, x.B}, first)
		c.check(at, registers[0])
		c.emit(opcode.Store, 0, registers[0], registers[1], 0, base+at.offset)
	case grammar.If:
		c.either(x)
	case grammar.While:
		top := len(c.words)
		out := c.unless(x.A)
		c.list(x.Body)
		if !leaves(x.Body) {
			c.emit(opcode.Jump, 0, 0, 0, 0, top)
		}
		c.aim(out)
	case grammar.Return:
		c.leave(c.operand(x.A, first))
	case grammar.Do:
		c.effect(x.A)
	case grammar.Halt:
		c.emit(opcode.Halt, 0, c.operand(x.A, first), 0, 0, 0)
	}
}

func (c *compiler) either(x api.Stmt) {
	out := c.unless(x.A)
	c.list(x.Body)
	if len(x.Else) == 0 {
		c.aim(out)
		return
	}
	if leaves(x.Body) {
		c.aim(out)
		c.list(x.Else)
		return
	}
	end := c.emit(opcode.Jump, 0, 0, 0, 0, 0)
	c.aim(out)
	c.list(x.Else)
	c.aim(end)
}

// unless: a jump that is taken if the value is 0; its place.
func (c *compiler) unless(x api.Expr) int {
	op := opcode.Jz
	if x.Op == grammar.Iszero {
		op = opcode.Jnz
		x = x.Args[0]
	}
	return c.emit(op, 0, c.operand(x, first), 0, 0, 0)
}
