package ir

import (
	"moot/api"
	"moot/grammar"
	"moot/witness"
	"moot/word"
	"moot/wordbytes"
)

// run is a program that is run. What ends it at once is told by a false beside each value, up to the first function.
type run struct {
	program    []api.Func
	store      *witness.Store
	memory     [api.DataSize]uint64
	fuel, used int
	dry        bool   // the fuel is gone
	exit       uint64 // of a program that ended at once
}

// flow is how a statement leaves the list in which it stands.
type flow int

const (
	onward flow = iota
	returned
	ended
)

// frame is a function that is run: its locals, and what it returns.
type frame struct {
	locals [api.MaxLocals]uint64
	value  uint64
}

func (r *run) spend() bool {
	if r.used >= r.fuel {
		r.dry = true
		return false
	}
	r.used++
	return true
}

func (r *run) end(exit uint64) (uint64, bool) {
	r.exit = exit
	return 0, false
}

func (r *run) call(n uint64, args []uint64) (uint64, bool) {
	f := &frame{}
	copy(f.locals[:], args)
	if r.list(f, r.program[n].Body) == ended {
		return 0, false
	}
	return f.value, true
}

func (r *run) list(f *frame, list []api.Stmt) flow {
	for _, x := range list {
		if way := r.statement(f, x); way != onward {
			return way
		}
	}
	return onward
}

func (r *run) statement(f *frame, x api.Stmt) flow {
	if x.Kind == grammar.While {
		return r.loop(f, x)
	}
	if !r.spend() {
		return ended
	}
	a, ok := r.value(f, x.A)
	if !ok {
		return ended
	}
	switch x.Kind {
	case grammar.Set:
		f.locals[x.N] = a
	case grammar.Store:
		return r.storeAt(f, a, x.B)
	case grammar.If:
		if a != 0 {
			return r.list(f, x.Body)
		}
		return r.list(f, x.Else)
	case grammar.Return:
		f.value = a
		return returned
	case grammar.Halt:
		r.end(a)
		return ended
	}
	return onward
}

func (r *run) loop(f *frame, x api.Stmt) flow {
	for {
		if !r.spend() {
			return ended
		}
		a, ok := r.value(f, x.A)
		if !ok {
			return ended
		}
		if a == 0 {
			return onward
		}
		if way := r.list(f, x.Body); way != onward {
			return way
		}
	}
}

func (r *run) storeAt(f *frame, place uint64, x api.Expr) flow {
	v, ok := r.value(f, x)
	if !ok {
		return ended
	}
	if place >= api.DataSize {
		r.end(api.Wrong)
		return ended
	}
	r.memory[place] = v
	return onward
}

func (r *run) value(f *frame, x api.Expr) (uint64, bool) {
	if !r.spend() {
		return 0, false
	}
	args := [api.MaxLocals]uint64{}
	for i, arg := range x.Args {
		v, ok := r.value(f, arg)
		if !ok {
			return 0, false
		}
		args[i] = v
	}
	switch x.Op {
	case grammar.Const:
		return x.N, true
	case grammar.Local:
		return f.locals[x.N], true
	case grammar.Load:
		if args[0] >= api.DataSize {
			return r.end(api.Wrong)
		}
		return r.memory[args[0]], true
	case grammar.Call:
		return r.call(x.N, args[:len(x.Args)])
	case grammar.Hash:
		return r.hash(args[0], args[1])
	case grammar.Pre:
		return r.preimage(args[0], args[1])
	}
	v, err := word.Apply(x.Op, args[0], args[1], args[2])
	return v, err == nil
}

// within: are so many words from a place on in the memory?
func within(place, n uint64) bool {
	return place <= api.DataSize-n
}

func (r *run) hash(from, to uint64) (uint64, bool) {
	if !within(from, wordbytes.PreWords) || !within(to, wordbytes.HashWords) {
		return r.end(api.Wrong)
	}
	p := api.Pre{}
	r.take(p[:], from)
	h, err := r.store.Add(p)
	if err != nil {
		return r.end(api.Missing)
	}
	r.put(to, h[:])
	return 0, true
}

func (r *run) preimage(from, to uint64) (uint64, bool) {
	if !within(from, wordbytes.HashWords) || !within(to, wordbytes.PreWords) {
		return r.end(api.Wrong)
	}
	h := api.Hash{}
	r.take(h[:], from)
	p, err := r.store.Get(h)
	if err != nil {
		return r.end(api.Missing)
	}
	r.put(to, p[:])
	return 0, true
}

// take: fills the bytes from the memory, word by word.
func (r *run) take(b []byte, from uint64) {
	for i := range len(b) / wordbytes.Size {
		wordbytes.Put(b, i, r.memory[from+uint64(i)])
	}
}

// put: the bytes stand in the memory, word by word.
func (r *run) put(to uint64, b []byte) {
	for i := range len(b) / wordbytes.Size {
		r.memory[to+uint64(i)] = wordbytes.Get(b, i)
	}
}
