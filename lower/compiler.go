package lower

import (
	"slices"

	"moot/api"
	"moot/opcode"
	"moot/vm"
)

// The registers. Values are worked out in those from first on; an expression that has others within begins at last or below, so that its three operands have room.
const (
	zero     = 0 // is never written
	first    = 1
	last     = 11
	scratch  = 14 // the way back, when a function begins; then what is loaded only to see whether it can be
	baseHeld = 15
)

// linkSize is what each function's frame has ahead of its locals: the way back. Behind them are what waits for a call.
const linkSize = 1

// layout is where the parts behind the code stand.
type layout struct {
	pool   int
	frames []int // of the functions: as none is running twice at a time, each has a fixed one
	end    int
}

// invocation is a function that calls another one.
type invocation struct {
	from, to int
}

// compiler is one pass over a program.
type compiler struct {
	program     []api.Func
	layout      layout
	words, pool []uint64
	starts      []int       // the functions' first places
	calls       map[int]int // the places of jumps to functions, and to which ones
	invocations []invocation
	sizes       []int // of the functions' frames
	current     int   // the function at hand
	waiting     int   // how many values wait in its frame
	waited      int   // the most that did
}

// pass: the words of a program, if all stands where the layout says.
func pass(p []api.Func, where layout) *compiler {
	c := &compiler{program: p, layout: where, calls: map[int]int{}}
	c.emit(opcode.Li, baseHeld, 0, 0, 0, base)
	for i, f := range p {
		c.current, c.waited = i, 0
		c.starts = append(c.starts, len(c.words))
		c.enter(f)
		c.list(f.Body)
		if !leaves(f.Body) {
			c.leave(zero)
		}
		c.sizes = append(c.sizes, linkSize+f.Locals+c.waited)
	}
	return c
}

// plan: where all stands behind a pass. The frame of a function is behind those of all that call it.
func (c *compiler) plan() layout {
	pool := len(c.words)
	begin := pool + len(c.pool)
	where := layout{pool: pool, frames: make([]int, len(c.program)), end: begin}
	for i := range where.frames {
		where.frames[i] = begin
	}
	for _, x := range c.invocations {
		where.frames[x.to] = max(where.frames[x.to], where.frames[x.from]+c.sizes[x.from])
	}
	for i, size := range c.sizes {
		where.end = max(where.end, where.frames[i]+size)
	}
	return where
}

// patch: the jumps to functions, now that all of these have their places.
func (c *compiler) patch() {
	for place, function := range c.calls {
		c.words[place] = instruction(opcode.Jal, scratch, 0, 0, 0, c.starts[function])
	}
}

func instruction(op, d, a, b, c, n int) uint64 {
	word, _ := vm.Code(op, d, a, b, c, int64(n))
	return word
}

// emit: an instruction more; its place.
func (c *compiler) emit(op, d, a, b, third, n int) int {
	c.words = append(c.words, instruction(op, d, a, b, third, n))
	return len(c.words) - 1
}

// aim: a jump that was emitted goes to the next place.
func (c *compiler) aim(place int) {
	op, d, a, _, _, _, _ := vm.Parts(c.words[place])
	c.words[place] = instruction(op, d, a, 0, 0, len(c.words))
}

func (c *compiler) load(register, place int) {
	c.emit(opcode.Load, register, zero, 0, 0, place)
}

func (c *compiler) store(register, place int) {
	c.emit(opcode.Store, 0, zero, register, 0, place)
}

// constant: a number that no instruction can say stands in the pool.
func (c *compiler) constant(register int, v uint64) {
	if n := int64(v); n >= -1<<31 && n < 1<<31 {
		c.emit(opcode.Li, register, 0, 0, 0, int(n))
		return
	}
	i := slices.Index(c.pool, v)
	if i < 0 {
		i = len(c.pool)
		c.pool = append(c.pool, v)
	}
	c.load(register, c.layout.pool+i)
}

// link: where the way back of the function at hand stands.
func (c *compiler) link() int {
	return c.layout.frames[c.current]
}

func (c *compiler) local(function, n int) int {
	return c.layout.frames[function] + linkSize + n
}

// wait: a place in the frame for a value that waits.
func (c *compiler) wait() int {
	place := c.local(c.current, c.program[c.current].Locals+c.waiting)
	c.waiting++
	c.waited = max(c.waited, c.waiting)
	return place
}

// enter: the way back is kept, and the locals that are no parameters are 0. The first function is entered once, and all its memory is 0.
func (c *compiler) enter(f api.Func) {
	if c.current == 0 {
		return
	}
	c.store(scratch, c.link())
	for n := f.Params; n < f.Locals; n++ {
		c.store(zero, c.local(c.current, n))
	}
}

// leave: with the value of a register. The first function has nowhere to go back to.
func (c *compiler) leave(register int) {
	if c.current == 0 {
		c.emit(opcode.Halt, 0, register, 0, 0, 0)
		return
	}
	if register != first {
		c.emit(opcode.Or, first, register, register, 0, 0)
	}
	c.load(scratch, c.link())
	c.emit(opcode.Jr, 0, scratch, 0, 0, 0)
}
